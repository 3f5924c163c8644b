import Derived.Test.YtkhcjkmifddlbabGreatDoorPart1
import Derived.Deep.AppendLies
import Derived.ProofKit
import Derived.Below
import Derived.Test.YtkhcjkmifddlbabGreatDoorRows
import Derived.Deep.Slices
import Derived.Carry
import Derived.OpenShut
import Derived.SizedLaws
import Derived.WalkKit
set_option maxHeartbeats 8000000
namespace Go.Proofs.YtkhcjkmifddlbabGreatDoor
open Go.RowKit Go.Deep
def mkP (k:Int) (q:Nat):Value:=pc (fun _=>2199023255552+k) (fun _=>-7) (fun _=>9) q
def mkS (k:Int) (q:Nat):Value:=.int .i64 (if q % 9=0 then 9 else if q % 9 % 2=1 then 2199023255552+k else -7)
def mkT (k:Int) (q:Nat):Value:=.int .i64 (if q % 2=0 then 2199023255552+k else -7)
def mkB (k:Int) (q:Nat):Value:=.int .u8 (IntKind.u8.wrap (k+(q:Int)*(1+k / 256)))
structure HS where
  n:Int
  cs:Value
  rs:Value
  vP:Value
  vO:Value
  vS:Value
  vT:Value
  vR:Value
  vB:Value
  P:List (Nat×Nat×Int)
  O:List (Nat×Nat×(Nat→Nat)×Int)
  S:List (Option Nat×Nat×Int)
  T:List (Option Nat×Nat×Int)
  R:List (Option Nat×Nat×(Nat→Nat)×Int)
  B:List (Option Nat×Nat×Int)
def wc (s:HS) (q:Nat):Value:=
  if q=0 then s.cs else if q=1 then s.rs else if q=2 then .int .i64 s.n else if q=3 then s.vP else if q=4 then s.vO else if q=5 then s.vS else if q=6 then s.vT else if q=7 then s.vR else s.vB
def peC (e:Nat×Nat×Int):List Value:=[.slice (some ⟨e.1,0,none⟩) e.2.1 e.2.1,.int .i64 e.2.2]
def oeC (e:Nat×Nat×(Nat→Nat)×Int):List Value:=[.slice (some ⟨e.1,0,none⟩) e.2.1 e.2.1,.int .i64 e.2.2.2]
def seC (e:Option Nat×Nat×Int):List Value:=[.slice (e.1.map fun b=>⟨b,0,none⟩) e.2.1 e.2.1,.int .i64 e.2.2]
def reC (e:Option Nat×Nat×(Nat→Nat)×Int):List Value:=[.slice (e.1.map fun b=>⟨b,0,none⟩) e.2.1 e.2.1,.int .i64 e.2.2.2]
def rowIz (w:World) (b:Nat) (t:TypeId) (n:Nat) (f:Nat→Value):Prop:=
  ∃(c:Array Value) (q:Nat×Nat),w.heap[b]? = some (.cells c t q)∧c.size=n∧(q=(0,0)∨n≤q.1)∧∀i,i<n→c[i]? = some (f i)
section
variable {w w':World} {b:Nat} {t:TypeId} {n:Nat} {f g:Nat→Value}
theorem rowIz.of_row (h:w.rowIs b t n f):rowIz w b t n f:=by
  obtain ⟨c,hb,hn,hc⟩:=h
  exact ⟨c,(0,0),hb,hn,.inl rfl,hc⟩
theorem rowIz.cell (h:rowIz w b t n f) {i:Nat} (hi:i<n):w.cell? ⟨b,i,none⟩=some (f i):=by
  obtain ⟨c,q,hb,_,_,hc⟩:=h
  simp [World.cell?,hb,hc i hi]
theorem rowIz.frozen (h:rowIz w b t n f) {i:Nat} (hi:i<n):w.frozen? ⟨b,i,none⟩=false:=by
  obtain ⟨c,⟨lo,up⟩,hb,_,hq,_⟩:=h
  rcases hq with hq | hq
  · simp only [Prod.mk.injEq] at hq
    obtain ⟨rfl,rfl⟩:=hq
    simp [World.frozen?,hb]
  · simp only at hq
    simp [World.frozen?,hb]
    omega
theorem rowIz.lt (h:rowIz w b t n f):b<w.heap.size:=by
  obtain ⟨c,q,hb,_⟩:=h
  obtain ⟨hlt,_⟩:=Array.getElem?_eq_some_iff.1 hb
  exact hlt
theorem rowIz.congr (h:rowIz w b t n f) (e:∀i,i<n→f i=g i):rowIz w b t n g:=by
  obtain ⟨c,q,hb,hn,hq,hc⟩:=h
  exact ⟨c,q,hb,hn,hq,fun i hi=>by rw [hc i hi,e i hi]⟩
theorem rowIz.of_block (h:rowIz w b t n f) (e:w'.heap[b]? = w.heap[b]?):rowIz w' b t n f:=by
  obtain ⟨c,q,hb,hn,hq,hc⟩:=h
  exact ⟨c,q,e.trans hb,hn,hq,hc⟩
theorem rowIz.set (h:rowIz w b t n f) (i:Nat) (v:Value):rowIz (w.setCell ⟨b,i,none⟩ v) b t n (fun j=>if j=i then v else f j):=by
  obtain ⟨c,q,hb,hn,hq,hc⟩:=h
  refine ⟨c.setIfInBounds i v,q,?_,by simpa using hn,hq,fun j hj=>?_⟩
  · simp [World.setCell,Array.getElem?_modify,hb]
  · rw [Array.getElem?_setIfInBounds]
    by_cases e:j=i
    · subst e
      simp [hn,hj]
    · rw [if_neg (fun h=>e h.symm)]
      show c[j]? = some (if j=i then v else f j)
      rw [if_neg e]
      exact hc j hj
theorem rowz_below {B:Nat} (h:rowIz w b t n f) (hb:Below B w w') (hlt:b<B):rowIz w' b t n f:=h.of_block (hb.block b hlt)
end
structure HeldInv (w:World) (h:Nat) (s:HS):Prop where
  wd:w.rowIs h 37 9 (wc s)
  oP:w.ownsRow h 127 2 s.vP s.P.length (s.P.flatMap peC)
  oO:w.ownsRow h 132 2 s.vO s.O.length (s.O.flatMap oeC)
  oS:w.ownsRow h 64 2 s.vS s.S.length (s.S.flatMap seC)
  eP:∀e∈s.P,w.rowIs e.1 129 (e.2.1*3) (mkP e.2.2)
  eO:∀e∈s.O,w.rowIs e.1 125 e.2.1 (fun i=>.slice (some ⟨e.2.2.1 i,0,none⟩) 1 1)
  eI:∀e∈s.O,∀i,i<e.2.1→w.rowIs (e.2.2.1 i) 129 3 (mkP e.2.2.2)
  eS:∀e∈s.S,∀b,e.1=some b→w.rowIs b 44 (e.2.1*9) (mkS e.2.2)
  eN:∀e∈s.S,e.1=none→e.2.1=0
  lo:(s.P.length:Int)+(s.O.length:Int)+(s.S.length:Int)+(s.T.length:Int)+(s.R.length:Int)+(s.B.length:Int)≤s.n
  hi:s.n≤1099511627776
  mP:∀e∈s.P,0≤e.2.2∧e.2.2≤1099511627776∧e.2.1≤1099511627776
  mO:∀e∈s.O,0≤e.2.2.2∧e.2.2.2≤1099511627776∧e.2.1≤1099511627776
  mS:∀e∈s.S,0≤e.2.2∧e.2.2≤1099511627776∧(e.2.1:Int)≤9223372036854775807
  oT:w.ownsRow h 134 2 s.vT s.T.length (s.T.flatMap seC)
  oR:w.ownsRow h 136 2 s.vR s.R.length (s.R.flatMap reC)
  eT:∀e∈s.T,∀b,e.1=some b→w.rowIs b 42 (e.2.1*2) (mkT e.2.2)
  eU:∀e∈s.T,e.1=none→e.2.1=0
  eR:∀e∈s.R,∀b,e.1=some b→w.rowIs b 88 e.2.1 (fun i=>.slice (some ⟨e.2.2.1 i,0,none⟩) 1 1)
  eJ:∀e∈s.R,∀i,i<e.2.1→w.rowIs (e.2.2.1 i) 42 2 (mkT e.2.2.2)
  eM:∀e∈s.R,e.1=none→e.2.1=0
  mT:∀e∈s.T,0≤e.2.2∧e.2.2≤1099511627776∧(e.2.1:Int)≤9223372036854775807
  mR:∀e∈s.R,0≤e.2.2.2∧e.2.2.2≤1099511627776∧(e.2.1:Int)≤9223372036854775807
  oB:w.ownsRow h 67 2 s.vB s.B.length (s.B.flatMap seC)
  eB:∀e∈s.B,∀b,e.1=some b→rowIz w b 5 e.2.1 (mkB e.2.2)
  eV:∀e∈s.B,e.1=none→e.2.1=0
  mB:∀e∈s.B,0≤e.2.2∧e.2.2≤1099511627776∧(e.2.1:Int)≤9223372036854775807
def Used (h:Nat) (s:HS) (b:Nat):Prop:=
  b=h∨s.vP.ownBlock=some b∨s.vO.ownBlock=some b∨s.vS.ownBlock=some b∨(∃e∈s.P,e.1=b)∨(∃e∈s.O,e.1=b)∨(∃e∈s.O,∃i,i<e.2.1∧e.2.2.1 i=b)∨(∃e∈s.S,e.1=some b) ∨
  s.vT.ownBlock=some b∨s.vR.ownBlock=some b∨(∃e∈s.T,e.1=some b)∨(∃e∈s.R,e.1=some b)∨(∃e∈s.R,∃i,i<e.2.1∧e.2.2.1 i=b)∨s.vB.ownBlock=some b∨(∃e∈s.B,e.1=some b)
theorem owns_of_block {w w':World} {base:Nat} {t:TypeId} {sz:Nat} {v:Value} {n:Nat} {xs:List Value} (h:w.ownsRow base t sz v n xs) (e:∀b,v.ownBlock=some b→w'.heap[b]? = w.heap[b]?):w'.ownsRow base t sz v n xs:=by
  refine ⟨h.1,?_⟩
  rcases h.2 with hn | ⟨g,cap,cur,rfl,hb,hg,rest⟩
  · exact .inl hn
  · exact .inr ⟨g,cap,cur,rfl,hb,(e g rfl).trans hg,rest⟩
theorem HeldInv.of_blocks {w w':World} {h:Nat} {s:HS} (H:HeldInv w h s) (e:∀b,Used h s b→w'.heap[b]? = w.heap[b]?):HeldInv w' h s where
  wd:=H.wd.of_block (e h (.inl rfl))
  oP:=owns_of_block H.oP fun b hb=>e b (by unfold Used;simp [hb])
  oO:=owns_of_block H.oO fun b hb=>e b (by unfold Used;simp [hb])
  oS:=owns_of_block H.oS fun b hb=>e b (by unfold Used;simp [hb])
  eP x hx:=(H.eP x hx).of_block (e _ (.inr (.inr (.inr (.inr (.inl ⟨x,hx,rfl⟩))))))
  eO x hx:=(H.eO x hx).of_block (e _ (.inr (.inr (.inr (.inr (.inr (.inl ⟨x,hx,rfl⟩)))))))
  eI x hx i hi:=(H.eI x hx i hi).of_block (e _ (.inr (.inr (.inr (.inr (.inr (.inr (.inl ⟨x,hx,i,hi,rfl⟩))))))))
  eS x hx b hb:=(H.eS x hx b hb).of_block (e _ (.inr (.inr (.inr (.inr (.inr (.inr (.inr (.inl ⟨x,hx,hb⟩)))))))))
  eN:=H.eN
  lo:=H.lo
  hi:=H.hi
  mP:=H.mP
  mO:=H.mO
  mS:=H.mS
  oT:=owns_of_block H.oT fun b hb=>e b (by unfold Used;simp [hb])
  oR:=owns_of_block H.oR fun b hb=>e b (by unfold Used;simp [hb])
  eT x hx b hb:=(H.eT x hx b hb).of_block (e _ (.inr (.inr (.inr (.inr (.inr (.inr (.inr (.inr (.inr (.inr (.inl ⟨x,hx,hb⟩))))))))))))
  eU:=H.eU
  eR x hx b hb:=(H.eR x hx b hb).of_block (e _ (.inr (.inr (.inr (.inr (.inr (.inr (.inr (.inr (.inr (.inr (.inr (.inl ⟨x,hx,hb⟩)))))))))))))
  eJ x hx i hi:=(H.eJ x hx i hi).of_block (e _ (.inr (.inr (.inr (.inr (.inr (.inr (.inr (.inr (.inr (.inr (.inr (.inr (.inl ⟨x,hx,i,hi,rfl⟩))))))))))))))
  eM:=H.eM
  mT:=H.mT
  mR:=H.mR
  oB:=owns_of_block H.oB fun b hb=>e b (by unfold Used;simp [hb])
  eB x hx b hb:=(H.eB x hx b hb).of_block (e _ (.inr (.inr (.inr (.inr (.inr (.inr (.inr (.inr (.inr (.inr (.inr (.inr (.inr (.inr ⟨x,hx,hb⟩)))))))))))))))
  eV:=H.eV
  mB:=H.mB
theorem HeldInv.used_lt {w:World} {h:Nat} {s:HS} (H:HeldInv w h s) {b:Nat} (u:Used h s b):b<w.heap.size:=by
  rcases u with rfl | u | u | u | ⟨x,hx,rfl⟩ | ⟨x,hx,rfl⟩ | ⟨x,hx,i,hi,rfl⟩ | ⟨x,hx,hb⟩ | u | u | ⟨x,hx,hb⟩ | ⟨x,hx,hb⟩ | ⟨x,hx,i,hi,rfl⟩ | u | ⟨x,hx,hb⟩
  · exact H.wd.lt
  · exact (H.oP.lt b u).2
  · exact (H.oO.lt b u).2
  · exact (H.oS.lt b u).2
  · exact (H.eP x hx).lt
  · exact (H.eO x hx).lt
  · exact (H.eI x hx i hi).lt
  · exact (H.eS x hx b hb).lt
  · exact (H.oT.lt b u).2
  · exact (H.oR.lt b u).2
  · exact (H.eT x hx b hb).lt
  · exact (H.eR x hx b hb).lt
  · exact (H.eJ x hx i hi).lt
  · exact (H.oB.lt b u).2
  · exact (H.eB x hx b hb).lt
theorem HeldInv.below {w w':World} {h:Nat} {s:HS} (H:HeldInv w h s) (hb:Below w.heap.size w w'):HeldInv w' h s:=
  H.of_blocks fun b u=>hb.block b (H.used_lt u)
def tyOf (w:World) (b:Nat):Option TypeId:=match w.heap[b]? with
  | some (.cells _ t _)=>some t
  | _=>none
theorem row_ty {w:World} {b:Nat} {t:TypeId} {n:Nat} {f:Nat→Value} (h:w.rowIs b t n f):tyOf w b=some t:=by
  obtain ⟨c,hb,_⟩:=h
  simp [tyOf,hb]
theorem rowIz_ty {w:World} {b:Nat} {t:TypeId} {n:Nat} {f:Nat→Value} (h:rowIz w b t n f):tyOf w b=some t:=by
  obtain ⟨c,q,hb,_⟩:=h
  simp [tyOf,hb]
theorem owns_ty {w:World} {base:Nat} {t:TypeId} {sz:Nat} {v:Value} {n:Nat} {xs:List Value} (h:w.ownsRow base t sz v n xs) {b:Nat} (hb:v.ownBlock=some b):tyOf w b=some t:=by
  rcases h.2 with ⟨rfl,_⟩ | ⟨g,cap,cur,rfl,_,hg,_⟩
  · simp [Value.ownBlock] at hb
  · simp [Value.ownBlock] at hb
    subst hb
    simp [tyOf,hg]
theorem HeldInv.used_pt {w:World} {h:Nat} {s:HS} (H:HeldInv w h s) {b:Nat} (u:Used h s b) (ht:tyOf w b=some 129):(∃e∈s.P,e.1=b)∨∃e∈s.O,∃i,i<e.2.1∧e.2.2.1 i=b:=by
  rcases u with rfl | u | u | u | u | ⟨x,hx,rfl⟩ | u | ⟨x,hx,hb⟩ | u | u | ⟨x,hx,hb⟩ | ⟨x,hx,hb⟩ | ⟨x,hx,i,hi,rfl⟩ | u | ⟨x,hx,hb⟩
  · rw [row_ty H.wd] at ht;simp at ht
  · rw [owns_ty H.oP u] at ht;simp at ht
  · rw [owns_ty H.oO u] at ht;simp at ht
  · rw [owns_ty H.oS u] at ht;simp at ht
  · exact .inl u
  · rw [row_ty (H.eO x hx)] at ht;simp at ht
  · exact .inr u
  · rw [row_ty (H.eS x hx b hb)] at ht;simp at ht
  · rw [owns_ty H.oT u] at ht;simp at ht
  · rw [owns_ty H.oR u] at ht;simp at ht
  · rw [row_ty (H.eT x hx b hb)] at ht;simp at ht
  · rw [row_ty (H.eR x hx b hb)] at ht;simp at ht
  · rw [row_ty (H.eJ x hx i hi)] at ht;simp at ht
  · rw [owns_ty H.oB u] at ht;simp at ht
  · rw [rowIz_ty (H.eB x hx b hb)] at ht;simp at ht
theorem HeldInv.used_pts {w:World} {h:Nat} {s:HS} (H:HeldInv w h s) {b:Nat} (u:Used h s b) (ht:tyOf w b=some 125):∃e∈s.O,e.1=b:=by
  rcases u with rfl | u | u | u | ⟨x,hx,rfl⟩ | u | ⟨x,hx,i,hi,rfl⟩ | ⟨x,hx,hb⟩ | u | u | ⟨x,hx,hb⟩ | ⟨x,hx,hb⟩ | ⟨x,hx,i,hi,rfl⟩ | u | ⟨x,hx,hb⟩
  · rw [row_ty H.wd] at ht;simp at ht
  · rw [owns_ty H.oP u] at ht;simp at ht
  · rw [owns_ty H.oO u] at ht;simp at ht
  · rw [owns_ty H.oS u] at ht;simp at ht
  · rw [row_ty (H.eP x hx)] at ht;simp at ht
  · exact u
  · rw [row_ty (H.eI x hx i hi)] at ht;simp at ht
  · rw [row_ty (H.eS x hx b hb)] at ht;simp at ht
  · rw [owns_ty H.oT u] at ht;simp at ht
  · rw [owns_ty H.oR u] at ht;simp at ht
  · rw [row_ty (H.eT x hx b hb)] at ht;simp at ht
  · rw [row_ty (H.eR x hx b hb)] at ht;simp at ht
  · rw [row_ty (H.eJ x hx i hi)] at ht;simp at ht
  · rw [owns_ty H.oB u] at ht;simp at ht
  · rw [rowIz_ty (H.eB x hx b hb)] at ht;simp at ht
theorem HeldInv.used_seg {w:World} {h:Nat} {s:HS} (H:HeldInv w h s) {b:Nat} (u:Used h s b) (ht:tyOf w b=some 44):∃e∈s.S,e.1=some b:=by
  rcases u with rfl | u | u | u | ⟨x,hx,rfl⟩ | ⟨x,hx,rfl⟩ | ⟨x,hx,i,hi,rfl⟩ | u | u | u | ⟨x,hx,hb⟩ | ⟨x,hx,hb⟩ | ⟨x,hx,i,hi,rfl⟩ | u | ⟨x,hx,hb⟩
  · rw [row_ty H.wd] at ht;simp at ht
  · rw [owns_ty H.oP u] at ht;simp at ht
  · rw [owns_ty H.oO u] at ht;simp at ht
  · rw [owns_ty H.oS u] at ht;simp at ht
  · rw [row_ty (H.eP x hx)] at ht;simp at ht
  · rw [row_ty (H.eO x hx)] at ht;simp at ht
  · rw [row_ty (H.eI x hx i hi)] at ht;simp at ht
  · exact u
  · rw [owns_ty H.oT u] at ht;simp at ht
  · rw [owns_ty H.oR u] at ht;simp at ht
  · rw [row_ty (H.eT x hx b hb)] at ht;simp at ht
  · rw [row_ty (H.eR x hx b hb)] at ht;simp at ht
  · rw [row_ty (H.eJ x hx i hi)] at ht;simp at ht
  · rw [owns_ty H.oB u] at ht;simp at ht
  · rw [rowIz_ty (H.eB x hx b hb)] at ht;simp at ht
theorem HeldInv.used_spot {w:World} {h:Nat} {s:HS} (H:HeldInv w h s) {b:Nat} (u:Used h s b) (ht:tyOf w b=some 42):(∃e∈s.T,e.1=some b)∨∃e∈s.R,∃i,i<e.2.1∧e.2.2.1 i=b:=by
  rcases u with rfl | u | u | u | ⟨x,hx,rfl⟩ | ⟨x,hx,rfl⟩ | ⟨x,hx,i,hi,rfl⟩ | ⟨x,hx,hb⟩ | u | u | u | ⟨x,hx,hb⟩ | u | u | ⟨x,hx,hb⟩
  · rw [row_ty H.wd] at ht;simp at ht
  · rw [owns_ty H.oP u] at ht;simp at ht
  · rw [owns_ty H.oO u] at ht;simp at ht
  · rw [owns_ty H.oS u] at ht;simp at ht
  · rw [row_ty (H.eP x hx)] at ht;simp at ht
  · rw [row_ty (H.eO x hx)] at ht;simp at ht
  · rw [row_ty (H.eI x hx i hi)] at ht;simp at ht
  · rw [row_ty (H.eS x hx b hb)] at ht;simp at ht
  · rw [owns_ty H.oT u] at ht;simp at ht
  · rw [owns_ty H.oR u] at ht;simp at ht
  · exact .inl u
  · rw [row_ty (H.eR x hx b hb)] at ht;simp at ht
  · exact .inr u
  · rw [owns_ty H.oB u] at ht;simp at ht
  · rw [rowIz_ty (H.eB x hx b hb)] at ht;simp at ht
theorem HeldInv.used_ring {w:World} {h:Nat} {s:HS} (H:HeldInv w h s) {b:Nat} (u:Used h s b) (ht:tyOf w b=some 88):∃e∈s.R,e.1=some b:=by
  rcases u with rfl | u | u | u | ⟨x,hx,rfl⟩ | ⟨x,hx,rfl⟩ | ⟨x,hx,i,hi,rfl⟩ | ⟨x,hx,hb⟩ | u | u | ⟨x,hx,hb⟩ | u | ⟨x,hx,i,hi,rfl⟩ | u | ⟨x,hx,hb⟩
  · rw [row_ty H.wd] at ht;simp at ht
  · rw [owns_ty H.oP u] at ht;simp at ht
  · rw [owns_ty H.oO u] at ht;simp at ht
  · rw [owns_ty H.oS u] at ht;simp at ht
  · rw [row_ty (H.eP x hx)] at ht;simp at ht
  · rw [row_ty (H.eO x hx)] at ht;simp at ht
  · rw [row_ty (H.eI x hx i hi)] at ht;simp at ht
  · rw [row_ty (H.eS x hx b hb)] at ht;simp at ht
  · rw [owns_ty H.oT u] at ht;simp at ht
  · rw [owns_ty H.oR u] at ht;simp at ht
  · rw [row_ty (H.eT x hx b hb)] at ht;simp at ht
  · exact u
  · rw [row_ty (H.eJ x hx i hi)] at ht;simp at ht
  · rw [owns_ty H.oB u] at ht;simp at ht
  · rw [rowIz_ty (H.eB x hx b hb)] at ht;simp at ht
theorem HeldInv.used_byte {w:World} {h:Nat} {s:HS} (H:HeldInv w h s) {b:Nat} (u:Used h s b) (ht:tyOf w b=some 5):∃e∈s.B,e.1=some b:=by
  rcases u with rfl | u | u | u | ⟨x,hx,rfl⟩ | ⟨x,hx,rfl⟩ | ⟨x,hx,i,hi,rfl⟩ | ⟨x,hx,hb⟩ | u | u | ⟨x,hx,hb⟩ | ⟨x,hx,hb⟩ | ⟨x,hx,i,hi,rfl⟩ | u | u
  · rw [row_ty H.wd] at ht;simp at ht
  · rw [owns_ty H.oP u] at ht;simp at ht
  · rw [owns_ty H.oO u] at ht;simp at ht
  · rw [owns_ty H.oS u] at ht;simp at ht
  · rw [row_ty (H.eP x hx)] at ht;simp at ht
  · rw [row_ty (H.eO x hx)] at ht;simp at ht
  · rw [row_ty (H.eI x hx i hi)] at ht;simp at ht
  · rw [row_ty (H.eS x hx b hb)] at ht;simp at ht
  · rw [owns_ty H.oT u] at ht;simp at ht
  · rw [owns_ty H.oR u] at ht;simp at ht
  · rw [row_ty (H.eT x hx b hb)] at ht;simp at ht
  · rw [row_ty (H.eR x hx b hb)] at ht;simp at ht
  · rw [row_ty (H.eJ x hx i hi)] at ht;simp at ht
  · rw [owns_ty H.oB u] at ht;simp at ht
  · exact u
def HS.Under (s:HS) (T:Nat):Prop:=(∀e∈s.P,e.1<T)∧(∀e∈s.O,e.1<T∧∀i,i<e.2.1→e.2.2.1 i<T)∧∀e∈s.S,∀b,e.1=some b→b<T
theorem HeldInv.under {w:World} {h:Nat} {s:HS} (H:HeldInv w h s):s.Under w.heap.size:=
  ⟨fun e he=>(H.eP e he).lt,fun e he=>⟨(H.eO e he).lt,fun i hi=>(H.eI e he i hi).lt⟩,fun e he b hb=>(H.eS e he b hb).lt⟩
theorem HeldInv.marked {w:World} {h:Nat} {s:HS} (H:HeldInv w h s) (hn:s.n+1≤1099511627776):HeldInv (w.setCell ⟨h,2,none⟩ (.int .i64 (s.n+1))) h { s with n:=s.n+1 }:=by
  have hne:∀b,b≠h→(w.setCell ⟨h,2,none⟩ (.int .i64 (s.n+1))).heap[b]? = w.heap[b]?:=fun b hb=>blk_setCell_other _ _ _ _ (by simpa using hb)
  have ty:=row_ty H.wd
  have P1:∀b,tyOf w b≠some 37→(w.setCell ⟨h,2,none⟩ (.int .i64 (s.n+1))).heap[b]? = w.heap[b]?:=fun b hb=>hne b (fun e=>by rw [e] at hb;exact hb ty)
  refine { wd:=?_,oP:=(owns_of_block H.oP fun b hb=>P1 b (by rw [owns_ty H.oP hb];decide)),oO:=(owns_of_block H.oO fun b hb=>P1 b (by rw [owns_ty H.oO hb];decide)),oS:=(owns_of_block H.oS fun b hb=>P1 b (by rw [owns_ty H.oS hb];decide)),oT:=(owns_of_block H.oT fun b hb=>P1 b (by rw [owns_ty H.oT hb];decide)),oR:=(owns_of_block H.oR fun b hb=>P1 b (by rw [owns_ty H.oR hb];decide)),eP:=(fun x hx=>(H.eP x hx).of_block (P1 _ (by rw [row_ty (H.eP x hx)];decide))),eO:=(fun x hx=>(H.eO x hx).of_block (P1 _ (by rw [row_ty (H.eO x hx)];decide))),eI:=(fun x hx i hi=>(H.eI x hx i hi).of_block (P1 _ (by rw [row_ty (H.eI x hx i hi)];decide))),eS:=(fun x hx b hb=>(H.eS x hx b hb).of_block (P1 _ (by rw [row_ty (H.eS x hx b hb)];decide))),eN:=H.eN,lo:=?_,hi:=hn,mP:=H.mP,mO:=H.mO,mS:=H.mS,eT:=(fun x hx b hb=>(H.eT x hx b hb).of_block (P1 _ (by rw [row_ty (H.eT x hx b hb)];decide))),eU:=H.eU,eR:=(fun x hx b hb=>(H.eR x hx b hb).of_block (P1 _ (by rw [row_ty (H.eR x hx b hb)];decide))),eJ:=(fun x hx i hi=>(H.eJ x hx i hi).of_block (P1 _ (by rw [row_ty (H.eJ x hx i hi)];decide))),eM:=H.eM,mT:=H.mT,mR:=H.mR,oB:=(owns_of_block H.oB fun b hb=>P1 b (by rw [owns_ty H.oB hb];decide)),eB:=(fun x hx b hb=>(H.eB x hx b hb).of_block (P1 _ (by rw [rowIz_ty (H.eB x hx b hb)];decide))),eV:=H.eV,mB:=H.mB }
  · refine (H.wd.set 2 _).congr fun q hq=>?_
    by_cases e:q=2
    · subst e;simp [wc]
    · simp only [if_neg e,wc]
  · have:=H.lo;show (s.P.length:Int)+s.O.length+s.S.length+s.T.length+s.R.length+s.B.length≤s.n+1;omega
structure Touch (S:Nat→Prop) (w w':World):Prop where
  os:w'.os=w.os
  tape:w'.tape=w.tape
  output:w'.output=w.output
  size:w.heap.size≤w'.heap.size
  block:∀b,b<w.heap.size→¬S b→w'.heap[b]? = w.heap[b]?
theorem Touch.refl (S:Nat→Prop) (w:World):Touch S w w:=⟨rfl,rfl,rfl,Nat.le_refl _,fun _ _ _=>rfl⟩
theorem Touch.trans {S:Nat→Prop} {a b c:World} (h:Touch S a b) (k:Touch S b c):Touch S a c:=
  ⟨k.os.trans h.os,k.tape.trans h.tape,k.output.trans h.output,Nat.le_trans h.size k.size,fun x hx hS=>(k.block x (Nat.lt_of_lt_of_le hx h.size) hS).trans (h.block x hx hS)⟩
theorem Touch.trans' {S S':Nat→Prop} {a b c:World} (h:Touch S a b) (k:Touch S' b c) (hS:∀x,S' x→S x∨a.heap.size≤x):Touch S a c:=
  ⟨k.os.trans h.os,k.tape.trans h.tape,k.output.trans h.output,Nat.le_trans h.size k.size,fun x hx hn=>(k.block x (Nat.lt_of_lt_of_le hx h.size) (fun e=>by rcases hS x e with e | e;exact hn e;omega)).trans (h.block x hx hn)⟩
theorem Touch.setCell {S:Nat→Prop} {w w':World} (h:Touch S w w') {p:Addr} (hp:S p.block∨w.heap.size≤p.block) (u:Value):Touch S w (w'.setCell p u):=
  ⟨h.os,h.tape,h.output,by rw [nblk_setCell];exact h.size,fun x hx hS=>by
    rw [blk_setCell_other _ _ _ _ (fun e=>by rcases hp with hp | hp;exact hS (by rw [e];exact hp);omega)];exact h.block x hx hS⟩
theorem Touch.alloc {S:Nat→Prop} {w w':World} (h:Touch S w w') (o:Obj):Touch S w (w'.alloc o):=
  ⟨h.os,h.tape,h.output,by rw [nblk_alloc];have:=h.size;omega,fun x hx hS=>by rw [blk_alloc_lt _ _ _ (by have:=h.size;omega)];exact h.block x hx hS⟩
theorem Touch.drew {S:Nat→Prop} {w w':World} (h:Touch S w w'):Touch S w w'.drew:=⟨h.os,h.tape,h.output,h.size,h.block⟩
theorem Touch.drewN {S:Nat→Prop} {w w':World} (h:Touch S w w') (n:Nat):Touch S w (w'.drewN n):=⟨h.os,h.tape,h.output,h.size,h.block⟩
theorem Touch.grown {S:Nat→Prop} {w w' w'':World} {row:Option Nat} (h:Touch S w w') (hg:w'.grownBy w'' row) (hr:∀b,row=some b→S b∨w.heap.size≤b):Touch S w w'':=
  ⟨hg.os.trans h.os,hg.tape.trans h.tape,hg.output.trans h.output,Nat.le_trans h.size hg.size,fun x hx hS=>by
    rw [hg.block x (Nat.lt_of_lt_of_le hx h.size) (fun e=>by rcases hr x e.symm with e | e;exact hS e;omega)];exact h.block x hx hS⟩
theorem Touch.below {S:Nat→Prop} {w w':World} (h:Touch S w w') {B:Nat} (hB:B≤w.heap.size) (hS:∀b,S b→B≤b):Below B w w':=
  ⟨h.os,h.tape,h.output,h.size,fun x hx=>h.block x (by omega) (fun e=>by have:=hS x e;omega)⟩
theorem Touch.of_below {S:Nat→Prop} {w w' w'':World} (h:Touch S w w') (hb:Below w'.heap.size w' w''):Touch S w w'':=
  h.trans' (S':=fun _=>False) ⟨hb.os,hb.tape,hb.output,hb.size,fun x hx _=>hb.block x hx⟩ (fun _ e=>e.elim)
theorem Touch.row {S:Nat→Prop} {w w':World} (h:Touch S w w') {b:Nat} {t:TypeId} {n:Nat} {f:Nat→Value} (hr:w.rowIs b t n f) (hS:¬S b):w'.rowIs b t n f:=
  hr.of_block (h.block b hr.lt hS)
theorem Touch.rowz {S:Nat→Prop} {w w':World} (h:Touch S w w') {b:Nat} {t:TypeId} {n:Nat} {f:Nat→Value} (hr:rowIz w b t n f) (hS:¬S b):rowIz w' b t n f:=
  hr.of_block (h.block b hr.lt hS)
def spC (p:Int×Int):List Value:=[.int .i64 p.1,.int .i64 p.2]
theorem info_spot:(Tryz.prog.info? 42).map (fun i=>(i.zero,i.size,i.bytes))=some (some (.agg #[.int .i64 0,.int .i64 0]),2,16):=by kernel_rfl
theorem push_sp {w:World} {base:Nat} {v:Value} {l l':List (Int×Int)} {p:Int×Int} {m:Nat} (h:w.ownsRow base 42 2 v m (l.flatMap spC++[.int .i64 p.1,.int .i64 p.2])) (hl:l'=l++[p]) (hm:m=l.length+1):w.ownsRow base 42 2 v l'.length (l'.flatMap spC):=by
  have e1:l'.length=m:=by rw [hl,hm];simp
  have e2:l'.flatMap spC=l.flatMap spC++[.int .i64 p.1,.int .i64 p.2]:=by rw [hl];simp [spC]
  rw [e1,e2];exact h
theorem owns_mono {w:World} {base base':Nat} {t:TypeId} {sz:Nat} {v:Value} {n:Nat} {xs:List Value} (h:w.ownsRow base t sz v n xs) (hb:base'≤base):w.ownsRow base' t sz v n xs:=by
  refine ⟨h.1,?_⟩
  rcases h.2 with hn | ⟨g,cap,cur,rfl,hb',rest⟩
  · exact .inl hn
  · exact .inr ⟨g,cap,cur,rfl,Nat.le_trans hb hb',rest⟩
theorem news_sp (W:World) (cs:List Value) (t:TypeId) (H:Nat) (hH:W.heap.size=H):∀(j:Nat) (u:Value),cs[j]? = some u→(W.alloc (.cells cs.toArray t)).cell? ((⟨H,0,none⟩:Addr).add j)=some u:=by
  intro j u hj
  subst hH
  have e2:((⟨W.heap.size,0,none⟩:Addr).add j)=⟨W.heap.size,j,none⟩:=by
    unfold Addr.add
    split
    · rename_i h;simp_all
    · simp
  have hlt:j<cs.length:=by
    rcases Nat.lt_or_ge j cs.length with h | h
    · exact h
    · rw [List.getElem?_eq_none h] at hj;cases hj
  have hr:=(World.rowIs_alloc W cs.toArray t (fun i=>cs[i]?.getD u) (fun i hi=>by simp at hi;simp [hi])).cell (i:=j) (by simpa using hlt)
  rw [e2,hr]
  simp [hj]
theorem one_two (a b:Int):∀u∈[Value.int .i64 a,.int .i64 b],u.oneCell'=true:=by
  intro u hu
  simp at hu
  rcases hu with rfl | rfl <;> rfl
theorem flat2_len (l:List (Int×Int)):(l.flatMap spC).length=l.length*2:=by
  induction l with
  | nil=>simp
  | cons x r ih=>rw [List.flatMap_cons,List.length_append,ih];simp [spC];omega
theorem flat2_one (l:List (Int×Int)):∀u∈l.flatMap spC,u.oneCell'=true:=by
  intro u hu
  rw [List.mem_flatMap] at hu
  obtain ⟨g,_,hg⟩:=hu
  exact one_two g.1 g.2 u hg
theorem flat2_at:∀(l:List (Int×Int)) (i:Nat) (hi:i<l.length),(l.flatMap spC)[i*2]? = some (.int .i64 l[i].1)∧(l.flatMap spC)[i*2+1]? = some (.int .i64 l[i].2):=by
  intro l
  induction l with
  | nil=>intro i hi;simp at hi
  | cons x r ih=>
    intro i hi
    rw [List.flatMap_cons]
    have h2:(spC x).length=2:=rfl
    cases i with
    | zero=>simp [spC]
    | succ j=>
      have:=ih j (by simpa using hi)
      simp only [List.getElem_cons_succ]
      rw [List.getElem?_append_right (by omega),List.getElem?_append_right (by omega),h2,show (j+1)*2-2=j*2 by omega,show (j+1)*2+1-2=j*2+1 by omega]
      exact this
theorem owns_sp {w:World} {base b cap:Nat} {t:TypeId} {l:List (Int×Int)} (h:w.ownsRow base t 2 (.slice (some ⟨b,0,none⟩) l.length cap) l.length (l.flatMap spC)) (i:Nat) (hi:i<l.length) :
    w.cell? ⟨b,i*2,none⟩=some (.int .i64 l[i].1)∧w.cell? ⟨b,i*2+1,none⟩=some (.int .i64 l[i].2):=by
  have e:=flat2_at l i hi
  have e0:=h.cellAt (i*2) (by omega)
  have e1:=h.cellAt (i*2+1) (by omega)
  rw [e.1] at e0
  rw [e.2] at e1
  exact ⟨e0,e1⟩
theorem owns_formN {w:World} {base:Nat} {t:TypeId} {z:Nat} {v:Value} {n:Nat} {xs:List Value} (h:w.ownsRow base t z v n xs):∃ao cap,v=.slice ao n cap∧(0<n→∃b,ao=some ⟨b,0,none⟩):=by
  rcases h.2 with ⟨rfl,h0⟩ | ⟨g,cap,cur,rfl,_⟩
  · exact ⟨none,0,by rw [h0],by omega⟩
  · exact ⟨some ⟨g,0,none⟩,cap,rfl,fun _=>⟨g,rfl⟩⟩
theorem news_row {w:World} {base g cap:Nat} {t:TypeId} {l:List (Int×Int)} (h:w.ownsRow base t 2 (.slice (some ⟨g,0,none⟩) l.length cap) l.length (l.flatMap spC)):∀(j:Nat) (u:Value),(l.flatMap spC)[j]? = some u→w.cell? ((⟨g,0,none⟩:Addr).add j)=some u:=by
  intro j u hj
  have e2:((⟨g,0,none⟩:Addr).add j)=⟨g,j,none⟩:=by
    unfold Addr.add
    split
    · rename_i h;simp_all
    · simp
  have hlt:j<l.length*2:=by
    rcases Nat.lt_or_ge j (l.length*2) with h | h
    · exact h
    · rw [List.getElem?_eq_none (by rw [flat2_len];exact h)] at hj;cases hj
  rw [e2,h.cellAt j hlt,hj]
theorem mark_any (h:Nat) (s:HS) (w:World) (H:HeldInv w h s) (hn:s.n+1≤1099511627776) :
    Calls Tryz.prog 70 #[.pointer (some ⟨h,2,none⟩)] w fun e w'=>e=.returned (.int .i64 (s.n+1))∧w'=w.setCell ⟨h,2,none⟩ (.int .i64 (s.n+1)):=by
  have c2:w.cell? ⟨h,2,none⟩=some (.int .i64 s.n):=by rw [H.wd.cell (by omega)];rfl
  have z2:=H.wd.frozen 2
  have l0:0≤s.n:=by have:=H.lo;omega
  clear H
  go_enter Tryz.func70,Tryz.ntmps70
  go_wp2
  go_ret
  exact ⟨rfl,rfl⟩
theorem markPoint_any (n:Int) (w:World) (h0:0≤n) (h1:n≤1099511627776) :
    Calls Tryz.prog 64 #[.int .i64 n] w fun e w'=>e=.returned (.agg #[.int .i64 (2199023255552+n),.int .i64 (-7),.int .i64 9])∧w'=w.alloc (.cells #[.int .i64 (2199023255552+n),.int .i64 (-7),.int .i64 9] 129):=by
  go_enter Tryz.func64,Tryz.ntmps64
  go_wp2
  exact bodyPost_ret (v:=.agg #[.int .i64 (2199023255552+n),.int .i64 (-7),.int .i64 9]) (by simp [results,Tryz.results64,go_sem]) rfl ⟨rfl,rfl⟩
theorem markSpot_any (n:Int) (w:World) (h0:0≤n) (h1:n≤1099511627776) :
    Calls Tryz.prog 63 #[.int .i64 n] w fun e w'=>e=.returned (.agg #[.int .i64 (2199023255552+n),.int .i64 (-7)])∧w'=w.alloc (.cells #[.int .i64 (2199023255552+n),.int .i64 (-7)] 42):=by
  go_enter Tryz.func63,Tryz.ntmps63
  go_wp2
  exact bodyPost_ret (v:=.agg #[.int .i64 (2199023255552+n),.int .i64 (-7)]) (by simp [results,Tryz.results63,go_sem]) rfl ⟨rfl,rfl⟩
theorem mkB_eq (n i q:Int):IntKind.u8.wrap (IntKind.i64.wrap (n+IntKind.i64.wrap (i*q)))=IntKind.u8.wrap (n+i*q):=by
  rw [IntKind.wrap_u8,IntKind.wrap_u8,IntKind.wrap_i64,IntKind.wrap_i64]
  omega
theorem markByte_any (n:Int) (i:Nat) (w:World) (h0:0≤n) (h1:n≤1099511627776) :
    Calls Tryz.prog 19 #[.int .i64 n,.int .i64 i] w fun e w'=>e=.returned (mkB n i)∧w'=w:=by
  go_enter Tryz.func19,Tryz.ntmps19
  go_wp2
  go_ret
  refine ⟨?_,rfl⟩
  unfold mkB
  rw [←mkB_eq,IntKind.wrap_u8,IntKind.wrap_i64,IntKind.wrap_i64]
  show Ending.returned (.int .u8 (wrap64 (n+wrap64 ((i:Int)*(1+n / 256))) % 256))=_
  unfold wrap64
  rfl
theorem grown_other {w w2:World} {o:Obj} {row:Option Nat} {t:TypeId} (hg:(w.alloc o).grownBy w2 row) (hr:∀b,row=some b→tyOf w b=some t) {b:Nat} (hlt:b<w.heap.size) (ht:tyOf w b≠some t):w2.heap[b]? = w.heap[b]?:=by
  rw [hg.block b (by rw [nblk_alloc];omega) (fun e=>ht (hr b e.symm)),blk_alloc_lt _ _ _ hlt]
theorem ty_lt {w:World} {b:Nat} {t:TypeId} (h:tyOf w b=some t):b<w.heap.size:=by
  rcases Nat.lt_or_ge b w.heap.size with hlt | hge
  · exact hlt
  · simp [tyOf,Array.getElem?_eq_none hge] at h
theorem set_other {w2:World} {h q:Nat} {v:Value} {b:Nat} (hb:b≠h):(w2.setCell ⟨h,q,none⟩ v).heap[b]? = w2.heap[b]?:=blk_setCell_other _ _ _ _ (by simpa using hb)
theorem row_of_step {w w2:World} {o:Obj} {row:Option Nat} {t:TypeId} {h q:Nat} {v:Value} (hg:(w.alloc o).grownBy w2 row) (hr:∀b,row=some b→tyOf w b=some t) (hh:tyOf w h=some 37)
    {b:Nat} {t':TypeId} {n:Nat} {f:Nat→Value} (hrow:w.rowIs b t' n f) (ht:t'≠t) (ht':t'≠37):(w2.setCell ⟨h,q,none⟩ v).rowIs b t' n f:=by
  refine hrow.of_block ?_
  rw [set_other (fun e=>by rw [e] at hrow;rw [row_ty hrow] at hh;simp at hh;exact ht' hh)]
  exact grown_other hg hr hrow.lt (by rw [row_ty hrow];simpa using ht)
theorem rowz_of_step {w w2:World} {o:Obj} {row:Option Nat} {t:TypeId} {h q:Nat} {v:Value} (hg:(w.alloc o).grownBy w2 row) (hr:∀b,row=some b→tyOf w b=some t) (hh:tyOf w h=some 37)
    {b:Nat} {t':TypeId} {n:Nat} {f:Nat→Value} (hrow:rowIz w b t' n f) (ht:t'≠t) (ht':t'≠37):rowIz (w2.setCell ⟨h,q,none⟩ v) b t' n f:=by
  refine hrow.of_block ?_
  rw [set_other (fun e=>by rw [e] at hrow;rw [rowIz_ty hrow] at hh;simp at hh;exact ht' hh)]
  exact grown_other hg hr hrow.lt (by rw [rowIz_ty hrow];simpa using ht)
theorem owns_of_step {w w2:World} {o:Obj} {row:Option Nat} {t:TypeId} {h q:Nat} {v:Value} (hg:(w.alloc o).grownBy w2 row) (hr:∀b,row=some b→tyOf w b=some t) (hh:tyOf w h=some 37)
    {base:Nat} {t':TypeId} {sz:Nat} {u:Value} {n:Nat} {xs:List Value} (hown:w.ownsRow base t' sz u n xs) (ht:t'≠t) (ht':t'≠37):(w2.setCell ⟨h,q,none⟩ v).ownsRow base t' sz u n xs:=by
  refine owns_of_block hown fun b hb=>?_
  have hty:=owns_ty hown hb
  rw [set_other (fun e=>by rw [e] at hty;rw [hty] at hh;simp at hh;exact ht' hh)]
  exact grown_other hg hr (ty_lt hty) (by rw [hty];simpa using ht)
theorem owns_set_world {w2:World} {h q:Nat} {v:Value} {base:Nat} {t:TypeId} {sz:Nat} {u:Value} {n:Nat} {xs:List Value} (hown:w2.ownsRow base t sz u n xs) (hne:u.ownBlock≠some h):(w2.setCell ⟨h,q,none⟩ v).ownsRow base t sz u n xs:=
  owns_of_block hown fun b hb=>set_other (fun e=>hne (by rw [hb,e]))
theorem HeldInv.pushP {w w2:World} {h:Nat} {s:HS} (H:HeldInv w h s) {b m g cap:Nat} {o:Obj} (hrow:w.rowIs b 129 (m*3) (mkP s.n)) (hm:m≤1099511627776)
    (hc:(s.P.length:Int)+s.O.length+s.S.length+s.T.length+s.R.length+s.B.length+1≤s.n)
    (hown:w2.ownsRow h 127 2 (.slice (some ⟨g,0,none⟩) (s.P.length+1) cap) (s.P.length+1) (s.P.flatMap peC++[.slice (some ⟨b,0,none⟩) m m,.int .i64 s.n]))
    (hg:(w.alloc o).grownBy w2 s.vP.ownBlock) (hat:s.vP.ownBlock=some g∨g=w.heap.size+1) :
    HeldInv (w2.setCell ⟨h,3,none⟩ (.slice (some ⟨g,0,none⟩) (s.P.length+1) cap)) h { s with vP:=.slice (some ⟨g,0,none⟩) (s.P.length+1) cap,P:=s.P++[(b,m,s.n)] }:=by
  have hh:=row_ty H.wd
  have hr:∀b,s.vP.ownBlock=some b→tyOf w b=some 127:=fun b hb=>owns_ty H.oP hb
  have hgh:g≠h:=by
    rcases hat with hat | hat
    · intro e;have:=hr g hat;rw [e,hh] at this;simp at this
    · have:=H.wd.lt;omega
  refine { wd:=?wd,oP:=?oP,oO:=(owns_of_step hg hr hh H.oO (by decide) (by decide)),oS:=(owns_of_step hg hr hh H.oS (by decide) (by decide)),oT:=(owns_of_step hg hr hh H.oT (by decide) (by decide)),oR:=(owns_of_step hg hr hh H.oR (by decide) (by decide)),eP:=?eP,eO:=(fun x hx=>row_of_step hg hr hh (H.eO x hx) (by decide) (by decide)),eI:=(fun x hx i hi=>row_of_step hg hr hh (H.eI x hx i hi) (by decide) (by decide)),eS:=(fun x hx y hy=>row_of_step hg hr hh (H.eS x hx y hy) (by decide) (by decide)),eN:=H.eN,eT:=(fun x hx y hy=>row_of_step hg hr hh (H.eT x hx y hy) (by decide) (by decide)),eU:=H.eU,eR:=(fun x hx y hy=>row_of_step hg hr hh (H.eR x hx y hy) (by decide) (by decide)),eJ:=(fun x hx i hi=>row_of_step hg hr hh (H.eJ x hx i hi) (by decide) (by decide)),eM:=H.eM,lo:=?lo,hi:=H.hi,mP:=?mP,mO:=H.mO,mS:=H.mS,mT:=H.mT,mR:=H.mR,oB:=(owns_of_step hg hr hh H.oB (by decide) (by decide)),eB:=(fun x hx y hy=>rowz_of_step hg hr hh (H.eB x hx y hy) (by decide) (by decide)),eV:=H.eV,mB:=H.mB }
  case wd=>
    refine ((H.wd.of_block (grown_other hg hr H.wd.lt (by rw [hh];decide))).set 3 _).congr fun q hq=>?_
    by_cases e:q=3
    · subst e;simp [wc]
    · simp only [if_neg e,wc]
  case oP=>
    have e1:(s.P++[(b,m,s.n)]).length=s.P.length+1:=by simp
    have e2:(s.P++[(b,m,s.n)]).flatMap peC=s.P.flatMap peC++[.slice (some ⟨b,0,none⟩) m m,.int .i64 s.n]:=by simp [peC]
    show World.ownsRow _ h _ 2 _ (s.P++[(b,m,s.n)]).length ((s.P++[(b,m,s.n)]).flatMap peC)
    rw [e1,e2]
    exact owns_set_world hown (by simpa [Value.ownBlock] using hgh)
  case eP=>
    intro x hx
    rcases List.mem_append.1 hx with hx | hx
    · exact row_of_step hg hr hh (H.eP x hx) (by decide) (by decide)
    · simp at hx;subst hx;exact row_of_step hg hr hh hrow (by decide) (by decide)
  case lo=>
    show ((s.P++[(b,m,s.n)]).length:Int)+(s.O.length:Int)+(s.S.length:Int)+(s.T.length:Int)+(s.R.length:Int)+(s.B.length:Int)≤s.n
    simp;omega
  case mP=>
    intro x hx
    rcases List.mem_append.1 hx with hx | hx
    · exact H.mP x hx
    · simp at hx;subst hx;exact ⟨by show (0:Int)≤s.n;omega,H.hi,hm⟩
theorem HeldInv.pushO {w w2:World} {h:Nat} {s:HS} (H:HeldInv w h s) {b m g cap:Nat} {F:Nat→Nat} {o:Obj} (hrow:w.rowIs b 125 m (fun i=>.slice (some ⟨F i,0,none⟩) 1 1)) (hin:∀i,i<m→w.rowIs (F i) 129 3 (mkP s.n)) (hm:m≤1099511627776)
    (hc:(s.P.length:Int)+s.O.length+s.S.length+s.T.length+s.R.length+s.B.length+1≤s.n)
    (hown:w2.ownsRow h 132 2 (.slice (some ⟨g,0,none⟩) (s.O.length+1) cap) (s.O.length+1) (s.O.flatMap oeC++[.slice (some ⟨b,0,none⟩) m m,.int .i64 s.n]))
    (hg:(w.alloc o).grownBy w2 s.vO.ownBlock) (hat:s.vO.ownBlock=some g∨g=w.heap.size+1) :
    HeldInv (w2.setCell ⟨h,4,none⟩ (.slice (some ⟨g,0,none⟩) (s.O.length+1) cap)) h { s with vO:=.slice (some ⟨g,0,none⟩) (s.O.length+1) cap,O:=s.O++[(b,m,F,s.n)] }:=by
  have hh:=row_ty H.wd
  have hr:∀b,s.vO.ownBlock=some b→tyOf w b=some 132:=fun b hb=>owns_ty H.oO hb
  have hgh:g≠h:=by
    rcases hat with hat | hat
    · intro e;have:=hr g hat;rw [e,hh] at this;simp at this
    · have:=H.wd.lt;omega
  refine { wd:=?wd,oP:=(owns_of_step hg hr hh H.oP (by decide) (by decide)),oO:=?oO,oS:=(owns_of_step hg hr hh H.oS (by decide) (by decide)),oT:=(owns_of_step hg hr hh H.oT (by decide) (by decide)),oR:=(owns_of_step hg hr hh H.oR (by decide) (by decide)),eP:=(fun x hx=>row_of_step hg hr hh (H.eP x hx) (by decide) (by decide)),eO:=?eO,eI:=?eI,eS:=(fun x hx y hy=>row_of_step hg hr hh (H.eS x hx y hy) (by decide) (by decide)),eN:=H.eN,eT:=(fun x hx y hy=>row_of_step hg hr hh (H.eT x hx y hy) (by decide) (by decide)),eU:=H.eU,eR:=(fun x hx y hy=>row_of_step hg hr hh (H.eR x hx y hy) (by decide) (by decide)),eJ:=(fun x hx i hi=>row_of_step hg hr hh (H.eJ x hx i hi) (by decide) (by decide)),eM:=H.eM,lo:=?lo,hi:=H.hi,mP:=H.mP,mO:=?mO,mS:=H.mS,mT:=H.mT,mR:=H.mR,oB:=(owns_of_step hg hr hh H.oB (by decide) (by decide)),eB:=(fun x hx y hy=>rowz_of_step hg hr hh (H.eB x hx y hy) (by decide) (by decide)),eV:=H.eV,mB:=H.mB }
  case wd=>
    refine ((H.wd.of_block (grown_other hg hr H.wd.lt (by rw [hh];decide))).set 4 _).congr fun q hq=>?_
    by_cases e:q=4
    · subst e;simp [wc]
    · simp only [if_neg e,wc]
  case oO=>
    have e1:(s.O++[(b,m,F,s.n)]).length=s.O.length+1:=by simp
    have e2:(s.O++[(b,m,F,s.n)]).flatMap oeC=s.O.flatMap oeC++[.slice (some ⟨b,0,none⟩) m m,.int .i64 s.n]:=by simp [oeC]
    show World.ownsRow _ h _ 2 _ (s.O++[(b,m,F,s.n)]).length ((s.O++[(b,m,F,s.n)]).flatMap oeC)
    rw [e1,e2]
    exact owns_set_world hown (by simpa [Value.ownBlock] using hgh)
  case eO=>
    intro x hx
    rcases List.mem_append.1 hx with hx | hx
    · exact row_of_step hg hr hh (H.eO x hx) (by decide) (by decide)
    · simp at hx;subst hx;exact row_of_step hg hr hh hrow (by decide) (by decide)
  case eI=>
    intro x hx i hi
    rcases List.mem_append.1 hx with hx | hx
    · exact row_of_step hg hr hh (H.eI x hx i hi) (by decide) (by decide)
    · simp at hx;subst hx;exact row_of_step hg hr hh (hin i hi) (by decide) (by decide)
  case lo=>
    show (s.P.length:Int)+((s.O++[(b,m,F,s.n)]).length:Int)+(s.S.length:Int)+(s.T.length:Int)+(s.R.length:Int)+(s.B.length:Int)≤s.n
    simp;omega
  case mO=>
    intro x hx
    rcases List.mem_append.1 hx with hx | hx
    · exact H.mO x hx
    · simp at hx;subst hx;exact ⟨by show (0:Int)≤s.n;omega,H.hi,hm⟩
theorem HeldInv.pushS {w w2:World} {h:Nat} {s:HS} (H:HeldInv w h s) {b:Option Nat} {m g cap:Nat} {o:Obj} (hrow:∀x,b=some x→w.rowIs x 44 (m*9) (mkS s.n)) (hnil:b=none→m=0) (hm:(m:Int)≤9223372036854775807)
    (hc:(s.P.length:Int)+s.O.length+s.S.length+s.T.length+s.R.length+s.B.length+1≤s.n)
    (hown:w2.ownsRow h 64 2 (.slice (some ⟨g,0,none⟩) (s.S.length+1) cap) (s.S.length+1) (s.S.flatMap seC++[.slice (b.map fun b=>⟨b,0,none⟩) m m,.int .i64 s.n]))
    (hg:(w.alloc o).grownBy w2 s.vS.ownBlock) (hat:s.vS.ownBlock=some g∨g=w.heap.size+1) :
    HeldInv (w2.setCell ⟨h,5,none⟩ (.slice (some ⟨g,0,none⟩) (s.S.length+1) cap)) h { s with vS:=.slice (some ⟨g,0,none⟩) (s.S.length+1) cap,S:=s.S++[(b,m,s.n)] }:=by
  have hh:=row_ty H.wd
  have hr:∀b,s.vS.ownBlock=some b→tyOf w b=some 64:=fun b hb=>owns_ty H.oS hb
  have hgh:g≠h:=by
    rcases hat with hat | hat
    · intro e;have:=hr g hat;rw [e,hh] at this;simp at this
    · have:=H.wd.lt;omega
  refine { wd:=?wd,oP:=(owns_of_step hg hr hh H.oP (by decide) (by decide)),oO:=(owns_of_step hg hr hh H.oO (by decide) (by decide)),oS:=?oS,oT:=(owns_of_step hg hr hh H.oT (by decide) (by decide)),oR:=(owns_of_step hg hr hh H.oR (by decide) (by decide)),eP:=(fun x hx=>row_of_step hg hr hh (H.eP x hx) (by decide) (by decide)),eO:=(fun x hx=>row_of_step hg hr hh (H.eO x hx) (by decide) (by decide)),eI:=(fun x hx i hi=>row_of_step hg hr hh (H.eI x hx i hi) (by decide) (by decide)),eS:=?eS,eN:=?eN,eT:=(fun x hx y hy=>row_of_step hg hr hh (H.eT x hx y hy) (by decide) (by decide)),eU:=H.eU,eR:=(fun x hx y hy=>row_of_step hg hr hh (H.eR x hx y hy) (by decide) (by decide)),eJ:=(fun x hx i hi=>row_of_step hg hr hh (H.eJ x hx i hi) (by decide) (by decide)),eM:=H.eM,lo:=?lo,hi:=H.hi,mP:=H.mP,mO:=H.mO,mS:=?mS,mT:=H.mT,mR:=H.mR,oB:=(owns_of_step hg hr hh H.oB (by decide) (by decide)),eB:=(fun x hx y hy=>rowz_of_step hg hr hh (H.eB x hx y hy) (by decide) (by decide)),eV:=H.eV,mB:=H.mB }
  case wd=>
    refine ((H.wd.of_block (grown_other hg hr H.wd.lt (by rw [hh];decide))).set 5 _).congr fun q hq=>?_
    by_cases e:q=5
    · subst e;simp [wc]
    · simp only [if_neg e,wc]
  case oS=>
    have e1:(s.S++[(b,m,s.n)]).length=s.S.length+1:=by simp
    have e2:(s.S++[(b,m,s.n)]).flatMap seC=s.S.flatMap seC++[.slice (b.map fun b=>⟨b,0,none⟩) m m,.int .i64 s.n]:=by simp [seC]
    show World.ownsRow _ h _ 2 _ (s.S++[(b,m,s.n)]).length ((s.S++[(b,m,s.n)]).flatMap seC)
    rw [e1,e2]
    exact owns_set_world hown (by simpa [Value.ownBlock] using hgh)
  case eS=>
    intro x hx y hy
    rcases List.mem_append.1 hx with hx | hx
    · exact row_of_step hg hr hh (H.eS x hx y hy) (by decide) (by decide)
    · simp at hx;subst hx;exact row_of_step hg hr hh (hrow y hy) (by decide) (by decide)
  case eN=>
    intro x hx hy
    rcases List.mem_append.1 hx with hx | hx
    · exact H.eN x hx hy
    · simp at hx;subst hx;exact hnil hy
  case lo=>
    show (s.P.length:Int)+(s.O.length:Int)+((s.S++[(b,m,s.n)]).length:Int)+(s.T.length:Int)+(s.R.length:Int)+(s.B.length:Int)≤s.n
    simp;omega
  case mS=>
    intro x hx
    rcases List.mem_append.1 hx with hx | hx
    · exact H.mS x hx
    · simp at hx;subst hx;exact ⟨by show (0:Int)≤s.n;omega,H.hi,hm⟩
theorem HeldInv.pushT {w w2:World} {h:Nat} {s:HS} (H:HeldInv w h s) {b:Option Nat} {m g cap:Nat} {o:Obj} (hrow:∀x,b=some x→w.rowIs x 42 (m*2) (mkT s.n)) (hnil:b=none→m=0) (hm:(m:Int)≤9223372036854775807)
    (hc:(s.P.length:Int)+s.O.length+s.S.length+s.T.length+s.R.length+s.B.length+1≤s.n)
    (hown:w2.ownsRow h 134 2 (.slice (some ⟨g,0,none⟩) (s.T.length+1) cap) (s.T.length+1) (s.T.flatMap seC++[.slice (b.map fun b=>⟨b,0,none⟩) m m,.int .i64 s.n]))
    (hg:(w.alloc o).grownBy w2 s.vT.ownBlock) (hat:s.vT.ownBlock=some g∨g=w.heap.size+1) :
    HeldInv (w2.setCell ⟨h,6,none⟩ (.slice (some ⟨g,0,none⟩) (s.T.length+1) cap)) h { s with vT:=.slice (some ⟨g,0,none⟩) (s.T.length+1) cap,T:=s.T++[(b,m,s.n)] }:=by
  have hh:=row_ty H.wd
  have hr:∀b,s.vT.ownBlock=some b→tyOf w b=some 134:=fun b hb=>owns_ty H.oT hb
  have hgh:g≠h:=by
    rcases hat with hat | hat
    · intro e;have:=hr g hat;rw [e,hh] at this;simp at this
    · have:=H.wd.lt;omega
  refine { wd:=?wd,oP:=(owns_of_step hg hr hh H.oP (by decide) (by decide)),oO:=(owns_of_step hg hr hh H.oO (by decide) (by decide)),oS:=(owns_of_step hg hr hh H.oS (by decide) (by decide)),oT:=?oT,oR:=(owns_of_step hg hr hh H.oR (by decide) (by decide)),eP:=(fun x hx=>row_of_step hg hr hh (H.eP x hx) (by decide) (by decide)),eO:=(fun x hx=>row_of_step hg hr hh (H.eO x hx) (by decide) (by decide)),eI:=(fun x hx i hi=>row_of_step hg hr hh (H.eI x hx i hi) (by decide) (by decide)),eS:=(fun x hx y hy=>row_of_step hg hr hh (H.eS x hx y hy) (by decide) (by decide)),eN:=H.eN,eT:=?eT,eU:=?eU,eR:=(fun x hx y hy=>row_of_step hg hr hh (H.eR x hx y hy) (by decide) (by decide)),eJ:=(fun x hx i hi=>row_of_step hg hr hh (H.eJ x hx i hi) (by decide) (by decide)),eM:=H.eM,lo:=?lo,hi:=H.hi,mP:=H.mP,mO:=H.mO,mS:=H.mS,mT:=?mT,mR:=H.mR,oB:=(owns_of_step hg hr hh H.oB (by decide) (by decide)),eB:=(fun x hx y hy=>rowz_of_step hg hr hh (H.eB x hx y hy) (by decide) (by decide)),eV:=H.eV,mB:=H.mB }
  case wd=>
    refine ((H.wd.of_block (grown_other hg hr H.wd.lt (by rw [hh];decide))).set 6 _).congr fun q hq=>?_
    by_cases e:q=6
    · subst e;simp [wc]
    · simp only [if_neg e,wc]
  case lo=>
    show (s.P.length:Int)+(s.O.length:Int)+(s.S.length:Int)+((s.T++[(b,m,s.n)]).length:Int)+(s.R.length:Int)+(s.B.length:Int)≤s.n
    simp;omega
  case oT=>
    have e1:(s.T++[(b,m,s.n)]).length=s.T.length+1:=by simp
    have e2:(s.T++[(b,m,s.n)]).flatMap seC=s.T.flatMap seC++[.slice (b.map fun b=>⟨b,0,none⟩) m m,.int .i64 s.n]:=by simp [seC]
    show World.ownsRow _ h _ 2 _ (s.T++[(b,m,s.n)]).length ((s.T++[(b,m,s.n)]).flatMap seC)
    rw [e1,e2]
    exact owns_set_world hown (by simpa [Value.ownBlock] using hgh)
  case eT=>
    intro x hx y hy
    rcases List.mem_append.1 hx with hx | hx
    · exact row_of_step hg hr hh (H.eT x hx y hy) (by decide) (by decide)
    · simp at hx;subst hx;exact row_of_step hg hr hh (hrow y hy) (by decide) (by decide)
  case eU=>
    intro x hx hy
    rcases List.mem_append.1 hx with hx | hx
    · exact H.eU x hx hy
    · simp at hx;subst hx;exact hnil hy
  case mT=>
    intro x hx
    rcases List.mem_append.1 hx with hx | hx
    · exact H.mT x hx
    · simp at hx;subst hx;exact ⟨by show (0:Int)≤s.n;omega,H.hi,hm⟩
theorem HeldInv.pushR {w w2:World} {h:Nat} {s:HS} (H:HeldInv w h s) {b:Option Nat} {m g cap:Nat} {F:Nat→Nat} {o:Obj} (hrow:∀x,b=some x→w.rowIs x 88 m (fun i=>.slice (some ⟨F i,0,none⟩) 1 1)) (hin:∀i,i<m→w.rowIs (F i) 42 2 (mkT s.n)) (hnil:b=none→m=0) (hm:(m:Int)≤9223372036854775807)
    (hc:(s.P.length:Int)+s.O.length+s.S.length+s.T.length+s.R.length+s.B.length+1≤s.n)
    (hown:w2.ownsRow h 136 2 (.slice (some ⟨g,0,none⟩) (s.R.length+1) cap) (s.R.length+1) (s.R.flatMap reC++[.slice (b.map fun b=>⟨b,0,none⟩) m m,.int .i64 s.n]))
    (hg:(w.alloc o).grownBy w2 s.vR.ownBlock) (hat:s.vR.ownBlock=some g∨g=w.heap.size+1) :
    HeldInv (w2.setCell ⟨h,7,none⟩ (.slice (some ⟨g,0,none⟩) (s.R.length+1) cap)) h { s with vR:=.slice (some ⟨g,0,none⟩) (s.R.length+1) cap,R:=s.R++[(b,m,F,s.n)] }:=by
  have hh:=row_ty H.wd
  have hr:∀b,s.vR.ownBlock=some b→tyOf w b=some 136:=fun b hb=>owns_ty H.oR hb
  have hgh:g≠h:=by
    rcases hat with hat | hat
    · intro e;have:=hr g hat;rw [e,hh] at this;simp at this
    · have:=H.wd.lt;omega
  refine { wd:=?wd,oP:=(owns_of_step hg hr hh H.oP (by decide) (by decide)),oO:=(owns_of_step hg hr hh H.oO (by decide) (by decide)),oS:=(owns_of_step hg hr hh H.oS (by decide) (by decide)),oT:=(owns_of_step hg hr hh H.oT (by decide) (by decide)),oR:=?oR,eP:=(fun x hx=>row_of_step hg hr hh (H.eP x hx) (by decide) (by decide)),eO:=(fun x hx=>row_of_step hg hr hh (H.eO x hx) (by decide) (by decide)),eI:=(fun x hx i hi=>row_of_step hg hr hh (H.eI x hx i hi) (by decide) (by decide)),eS:=(fun x hx y hy=>row_of_step hg hr hh (H.eS x hx y hy) (by decide) (by decide)),eN:=H.eN,eT:=(fun x hx y hy=>row_of_step hg hr hh (H.eT x hx y hy) (by decide) (by decide)),eU:=H.eU,eR:=?eR,eJ:=?eJ,eM:=?eM,lo:=?lo,hi:=H.hi,mP:=H.mP,mO:=H.mO,mS:=H.mS,mT:=H.mT,mR:=?mR,oB:=(owns_of_step hg hr hh H.oB (by decide) (by decide)),eB:=(fun x hx y hy=>rowz_of_step hg hr hh (H.eB x hx y hy) (by decide) (by decide)),eV:=H.eV,mB:=H.mB }
  case wd=>
    refine ((H.wd.of_block (grown_other hg hr H.wd.lt (by rw [hh];decide))).set 7 _).congr fun q hq=>?_
    by_cases e:q=7
    · subst e;simp [wc]
    · simp only [if_neg e,wc]
  case lo=>
    show (s.P.length:Int)+(s.O.length:Int)+(s.S.length:Int)+(s.T.length:Int)+((s.R++[(b,m,F,s.n)]).length:Int)+(s.B.length:Int)≤s.n
    simp;omega
  case oR=>
    have e1:(s.R++[(b,m,F,s.n)]).length=s.R.length+1:=by simp
    have e2:(s.R++[(b,m,F,s.n)]).flatMap reC=s.R.flatMap reC++[.slice (b.map fun b=>⟨b,0,none⟩) m m,.int .i64 s.n]:=by simp [reC]
    show World.ownsRow _ h _ 2 _ (s.R++[(b,m,F,s.n)]).length ((s.R++[(b,m,F,s.n)]).flatMap reC)
    rw [e1,e2]
    exact owns_set_world hown (by simpa [Value.ownBlock] using hgh)
  case eR=>
    intro x hx y hy
    rcases List.mem_append.1 hx with hx | hx
    · exact row_of_step hg hr hh (H.eR x hx y hy) (by decide) (by decide)
    · simp at hx;subst hx;exact row_of_step hg hr hh (hrow y hy) (by decide) (by decide)
  case eJ=>
    intro x hx i hi
    rcases List.mem_append.1 hx with hx | hx
    · exact row_of_step hg hr hh (H.eJ x hx i hi) (by decide) (by decide)
    · simp at hx;subst hx;exact row_of_step hg hr hh (hin i hi) (by decide) (by decide)
  case eM=>
    intro x hx hy
    rcases List.mem_append.1 hx with hx | hx
    · exact H.eM x hx hy
    · simp at hx;subst hx;exact hnil hy
  case mR=>
    intro x hx
    rcases List.mem_append.1 hx with hx | hx
    · exact H.mR x hx
    · simp at hx;subst hx;exact ⟨by show (0:Int)≤s.n;omega,H.hi,hm⟩
theorem HeldInv.pushB {w w2:World} {h:Nat} {s:HS} (H:HeldInv w h s) {b:Option Nat} {m g cap:Nat} {o:Obj} (hrow:∀x,b=some x→rowIz w x 5 m (mkB s.n)) (hnil:b=none→m=0) (hm:(m:Int)≤9223372036854775807)
    (hc:(s.P.length:Int)+s.O.length+s.S.length+s.T.length+s.R.length+s.B.length+1≤s.n)
    (hown:w2.ownsRow h 67 2 (.slice (some ⟨g,0,none⟩) (s.B.length+1) cap) (s.B.length+1) (s.B.flatMap seC++[.slice (b.map fun b=>⟨b,0,none⟩) m m,.int .i64 s.n]))
    (hg:(w.alloc o).grownBy w2 s.vB.ownBlock) (hat:s.vB.ownBlock=some g∨g=w.heap.size+1) :
    HeldInv (w2.setCell ⟨h,8,none⟩ (.slice (some ⟨g,0,none⟩) (s.B.length+1) cap)) h { s with vB:=.slice (some ⟨g,0,none⟩) (s.B.length+1) cap,B:=s.B++[(b,m,s.n)] }:=by
  have hh:=row_ty H.wd
  have hr:∀b,s.vB.ownBlock=some b→tyOf w b=some 67:=fun b hb=>owns_ty H.oB hb
  have hgh:g≠h:=by
    rcases hat with hat | hat
    · intro e;have:=hr g hat;rw [e,hh] at this;simp at this
    · have:=H.wd.lt;omega
  refine { wd:=?wd,oP:=(owns_of_step hg hr hh H.oP (by decide) (by decide)),oO:=(owns_of_step hg hr hh H.oO (by decide) (by decide)),oS:=(owns_of_step hg hr hh H.oS (by decide) (by decide)),oT:=(owns_of_step hg hr hh H.oT (by decide) (by decide)),oR:=(owns_of_step hg hr hh H.oR (by decide) (by decide)),eP:=(fun x hx=>row_of_step hg hr hh (H.eP x hx) (by decide) (by decide)),eO:=(fun x hx=>row_of_step hg hr hh (H.eO x hx) (by decide) (by decide)),eI:=(fun x hx i hi=>row_of_step hg hr hh (H.eI x hx i hi) (by decide) (by decide)),eS:=(fun x hx y hy=>row_of_step hg hr hh (H.eS x hx y hy) (by decide) (by decide)),eN:=H.eN,eT:=(fun x hx y hy=>row_of_step hg hr hh (H.eT x hx y hy) (by decide) (by decide)),eU:=H.eU,eR:=(fun x hx y hy=>row_of_step hg hr hh (H.eR x hx y hy) (by decide) (by decide)),eJ:=(fun x hx i hi=>row_of_step hg hr hh (H.eJ x hx i hi) (by decide) (by decide)),eM:=H.eM,lo:=?lo,hi:=H.hi,mP:=H.mP,mO:=H.mO,mS:=H.mS,mT:=H.mT,mR:=H.mR,oB:=?oB,eB:=?eB,eV:=?eV,mB:=?mB }
  case wd=>
    refine ((H.wd.of_block (grown_other hg hr H.wd.lt (by rw [hh];decide))).set 8 _).congr fun q hq=>?_
    by_cases e:q=8
    · subst e;simp [wc]
    · have e0:(q=0∨q=1∨q=2∨q=3∨q=4∨q=5∨q=6∨q=7):=by omega
      rcases e0 with rfl | rfl | rfl | rfl | rfl | rfl | rfl | rfl <;> rfl
  case lo=>
    show (s.P.length:Int)+(s.O.length:Int)+(s.S.length:Int)+(s.T.length:Int)+(s.R.length:Int)+((s.B++[(b,m,s.n)]).length:Int)≤s.n
    simp;omega
  case oB=>
    have e1:(s.B++[(b,m,s.n)]).length=s.B.length+1:=by simp
    have e2:(s.B++[(b,m,s.n)]).flatMap seC=s.B.flatMap seC++[.slice (b.map fun b=>⟨b,0,none⟩) m m,.int .i64 s.n]:=by simp [seC]
    show World.ownsRow _ h _ 2 _ (s.B++[(b,m,s.n)]).length ((s.B++[(b,m,s.n)]).flatMap seC)
    rw [e1,e2]
    exact owns_set_world hown (by simpa [Value.ownBlock] using hgh)
  case eB=>
    intro x hx y hy
    rcases List.mem_append.1 hx with hx | hx
    · exact rowz_of_step hg hr hh (H.eB x hx y hy) (by decide) (by decide)
    · simp at hx;subst hx;exact rowz_of_step hg hr hh (hrow y hy) (by decide) (by decide)
  case eV=>
    intro x hx hy
    rcases List.mem_append.1 hx with hx | hx
    · exact H.eV x hx hy
    · simp at hx;subst hx;exact hnil hy
  case mB=>
    intro x hx
    rcases List.mem_append.1 hx with hx | hx
    · exact H.mB x hx
    · simp at hx;subst hx;exact ⟨by show (0:Int)≤s.n;omega,H.hi,hm⟩
def ByAt (w:World) (a:Option Addr) (n:Nat) (X:Nat→Int):Prop:=
  n=0∨∃b off,a=some ⟨b,off,none⟩∧∀k,k<n→w.cell? ⟨b,off+k,none⟩=some (.int .u8 (X k))
theorem ByAt.below {w w':World} {a:Option Addr} {n:Nat} {X:Nat→Int} (h:ByAt w a n X) (hb:Below w.heap.size w w'):ByAt w' a n X:=by
  rcases h with h | ⟨b,off,ha,hc⟩
  · exact Or.inl h
  · refine Or.inr ⟨b,off,ha,fun k hk=>?_⟩
    have c0:=hc k hk
    have hlt:b<w.heap.size:=World.block_lt_of_cell? w _ c0
    exact (hb.cell (p:=⟨b,_,none⟩) hlt).trans c0
theorem ByAt.of_row {w:World} {b n m:Nat} {t:TypeId} {f:Nat→Value} {X:Nat→Int} (h:w.rowIs b t m f) (hn:n≤m) (hf:∀k,k<n→f k=.int .u8 (X k)):ByAt w (some ⟨b,0,none⟩) n X:=
  .inr ⟨b,0,rfl,fun k hk=>by rw [Nat.zero_add,h.cell (i:=k) (by omega),hf k hk]⟩
set_option maxRecDepth 100000 in
theorem sameBytes_any (a a':Option Addr) (n c c':Nat) (X:Nat→Int) (w:World) (hn:(n:Int)≤9223372036854775807) (h1:ByAt w a n X) (h2:ByAt w a' n X) :
    Calls Tryz.prog 92 #[.slice a n c,.slice a' n c'] w fun e w'=>e=.returned (.bool true)∧∃nd,w'=w.drewN nd:=by
  have H1:=hide h1
  have H2:=hide h2
  clear h1 h2
  go_enter Tryz.func92,Tryz.ntmps92
  go_wp2_with fail
  go_loopw [5] (fun i wr=>∃k nd:Nat,k≤n∧i=.int .i64 k∧wr=w.drewN nd) (fun i _=>n-(intOf i).toNat)
  case atStart=>exact ⟨0,0,by omega,rfl,rfl⟩
  case round=>
    obtain ⟨k,nd,hk,rfl,rfl⟩:=hrel
    by_cases hlt:k<n
    · obtain h0 | ⟨b,off,rfl,hc⟩:=H1.out
      · omega
      obtain h0 | ⟨b',off',rfl,hc'⟩:=H2.out
      · omega
      have q0:=hc k hlt
      have q1:=hc' k hlt
      clear hc hc'
      have g0:(0:Int)≤(k:Int):=by omega
      have g1:(k:Int)<(n:Int):=by omega
      have hd1:decide ((k:Int)<(n:Int))=true:=by simp;omega
      go_wp2
      go_quiet (fail)
      go_wp2
      go_roundw
      case rel=>exact ⟨k+1,nd+nq,by omega,by go_num,rfl⟩
      case measure=>simp [intOf];omega
    · have hd0:decide ((k:Int)<(n:Int))=false:=by simp;omega
      go_wp2
      go_ret
      exact ⟨rfl,nd,rfl⟩
set_option maxRecDepth 100000 in
theorem sameGray_any (a a':Option Addr) (n c c':Nat) (W H:Int) (X:Nat→Int) (w:World) (hn:(n:Int)≤9223372036854775807) (h1:ByAt w a n X) (h2:ByAt w a' n X) :
    Calls Tryz.prog 46 #[.agg #[.int .i64 W,.int .i64 H,.slice a n c],.agg #[.int .i64 W,.int .i64 H,.slice a' n c']] w fun e w'=>e=.returned (.bool true)∧Below w.heap.size w w':=by
  obtain ⟨W1,hW1⟩:∃W1,W1=w.alloc (.cells #[.int .i64 W,.int .i64 H,.slice a n c] 47):=⟨_,rfl⟩
  obtain ⟨W2,hW2⟩:∃W2,W2=W1.alloc (.cells #[.int .i64 W,.int .i64 H,.slice a' n c'] 47):=⟨_,rfl⟩
  have hB:Below w.heap.size w W2:=by rw [hW2,hW1];(repeat any_goals first | exact .refl _ _ | assumption | refine .drew ?_ | refine below_drewN ?_ _ | refine .setCell ?_ ?_ _ | refine .alloc ?_ ?_ _ | omega | (simp <;> omega))
  have HC:=hide (sameBytes_any a a' n c c' X W2 hn (h1.below hB) (h2.below hB))
  have HB:=hide hB
  clear h1 h2 hB
  go_enter Tryz.func46,Tryz.ntmps46
  go_wp2_with fail
  rw [←hW1,←hW2]
  refine HC.out.mono ?_
  rintro e w' ⟨rfl,nd,hw⟩
  have hB3:Below w.heap.size w w':=by rw [hw];exact below_drewN HB.out nd
  rw [hw,hW2,hW1]
  rw [hw,hW2,hW1] at hB3
  clear HC hw hW1 hW2 HB
  go_wp2
  go_ret
  exact ⟨rfl,hB3⟩
theorem info_hb:(Tryz.prog.info? 67).map (fun i=>(i.zero,i.size,i.bytes))=some (some (.agg #[.slice none 0 0,.int .i64 0]),2,32):=by kernel_rfl
theorem markB_step {wr:World} {b m i:Nat} {t:TypeId} {f:Nat→Value} {mk:Int} (h:rowIz wr b t m f) (hf:∀q,q<i→f q=mkB mk q) :
    ∃f',rowIz (wr.setCell ⟨b,i,none⟩ (mkB mk i)) b t m f'∧∀q,q<i+1→f' q=mkB mk q:=by
  refine ⟨_,h.set i _,fun q hq=>?_⟩
  by_cases e1:q=i
  · subst e1;rw [if_pos rfl]
  rw [if_neg e1]
  exact hf q (by omega)
def byteS (h:Nat) (s:HS) (x:Value) (b:Nat):Prop:=b=h∨s.vB.ownBlock=some b∨x.ownBlock=some b
def ByRow (w:World) (x:Value):Prop:=
  ∃(ao:Option Nat) (n cap:Nat),x=.slice (ao.map fun b=>⟨b,0,none⟩) n cap∧n≤cap∧(cap:Int)≤9223372036854775807∧(ao=none→cap=0)∧∀b,ao=some b→∃f,rowIz w b 5 cap f
theorem ByRow.of_owns {w:World} {base n:Nat} {x:Value} {xs:List Value} (hx:w.ownsRow base 5 1 x n xs):ByRow w x:=by
  rcases hx.2 with ⟨rfl,h0⟩ | ⟨g,cap,cur,rfl,_,hg,hle,hcap,hsz,_⟩
  · exact ⟨none,0,0,by first | rfl | (rw [h0];rfl),by omega,by omega,fun _=>rfl,fun b hb=>by cases hb⟩
  · refine ⟨some g,n,cap,rfl,hle,by unfold maxLen at hcap;omega,(fun e=>by cases e),fun b hb=>?_⟩
    simp at hb;subst hb
    exact ⟨fun q=>cur[q]?.getD undef,cur,(0,0),hg,by omega,.inl rfl,fun i hi=>by simp [show i<cur.size by omega]⟩
theorem ByRow.of_row {w:World} {b n cap:Nat} {f:Nat→Value} (h:w.rowIs b 5 cap f) (hn:n≤cap) (hc:(cap:Int)≤9223372036854775807):ByRow w (.slice (some ⟨b,0,none⟩) n cap):=
  ⟨some b,n,cap,rfl,hn,hc,(fun e=>by cases e),fun x hx=>⟨f,by simp at hx;subst hx;exact .of_row h⟩⟩
theorem ByRow.nil {w:World}:ByRow w (.slice none 0 0):=⟨none,0,0,rfl,by omega,by omega,fun _=>rfl,fun b hb=>by cases hb⟩
theorem ByRow.of_blocks {w w':World} {x:Value} (h:ByRow w x) (e:∀b,x.ownBlock=some b→w'.heap[b]? = w.heap[b]?):ByRow w' x:=by
  obtain ⟨ao,n,cap,rfl,hle,hcap,hnil,hrow⟩:=h
  refine ⟨ao,n,cap,rfl,hle,hcap,hnil,fun b hb=>?_⟩
  obtain ⟨f,hf⟩:=hrow b hb
  subst hb
  exact ⟨f,hf.of_block (e b rfl)⟩
theorem ByRow.lt {w:World} {x:Value} (h:ByRow w x) {b:Nat} (hb:x.ownBlock=some b):b<w.heap.size∧tyOf w b=some 5:=by
  obtain ⟨ao,n,cap,rfl,hle,hcap,hnil,hrow⟩:=h
  cases ao with
  | none=>simp [Value.ownBlock] at hb
  | some q=>
    simp [Value.ownBlock] at hb
    subst hb
    obtain ⟨f,hf⟩:=hrow q rfl
    exact ⟨hf.lt,rowIz_ty hf⟩
structure BytesKept (w:World) (s s':HS) (x:Value):Prop where
  n:s'.n=s.n+1
  cs:s'.cs=s.cs
  rs:s'.rs=s.rs
  P:s'.P=s.P
  O:s'.O=s.O
  S:s'.S=s.S
  T:s'.T=s.T
  R:s'.R=s.R
  B:∀e∈s'.B,e∈s.B∨e.1=x.ownBlock
  vB:s'.vB.ownBlock=s.vB.ownBlock∨∃g,s'.vB.ownBlock=some g∧w.heap.size≤g
  vs:s'.vP=s.vP∧s'.vO=s.vO∧s'.vS=s.vS∧s'.vT=s.vT∧s'.vR=s.vR
set_option maxRecDepth 100000 in
theorem heldBytes_any (h:Nat) (x:Value) (s:HS) (w:World) (H:HeldInv w h s) (hx:ByRow w x) (hne:∀b,x.ownBlock=some b→∀e∈s.B,e.1≠some b) (hn:s.n+1≤1099511627776) :
    Calls Tryz.prog 47 #[.pointer (some ⟨h,2,none⟩),x] w fun e w'=>e=.returned (.tuple #[])∧Touch (byteS h s x) w w'∧∃s',HeldInv w' h s'∧BytesKept w s s' x:=by
  have l0:0≤s.n:=by have:=H.lo;omega
  have HH:=hide H
  have HNe:=hide hne
  obtain ⟨ao,n,cap,rfl,hle,hcap,hnil,hrow⟩:=hx
  have hob:(Value.slice (ao.map fun b=>(⟨b,0,none⟩:Addr)) n cap).ownBlock=ao:=by cases ao <;> rfl
  have HRow:=hide hrow
  have HNil:=hide hnil
  have HOB:=hide hob
  clear H hne hrow hob
  obtain ⟨ad,had⟩:∃ad,ad=ao.map (fun b=>(⟨b,0,none⟩:Addr)):=⟨_,rfl⟩
  rw [←had]
  have HAD:=hide had
  clear had
  have hcapn:ad=none→cap=0:=fun e=>by
    have:=HAD.out
    rw [e] at this
    cases ao with
    | none=>exact hnil rfl
    | some b=>simp at this
  clear hnil
  go_enter Tryz.func47,Tryz.ntmps47
  go_wp2_with fail
  refine (mark_any h _ _ HH.out hn).mono ?_
  rintro e w1 ⟨rfl,hw1⟩
  have hT1:Touch (fun b=>b=h) w w1:=by rw [hw1];exact Touch.setCell (S:=fun b=>b=h) (Touch.refl _ _) (.inl (by rfl)) _
  have hI1:HeldInv w1 h { s with n:=s.n+1 }:=by rw [hw1];exact HH.out.marked hn
  have hR1:∀b,ao=some b→∃f,rowIz w1 b 5 cap f:=fun b hb=>by
    obtain ⟨f,hf⟩:=HRow.out b hb
    exact ⟨f,hT1.rowz hf (fun e=>by have h1:=rowIz_ty hf;rw [e,row_ty HH.out.wd] at h1;simp at h1)⟩
  have HT1:=hide hT1
  have HI1:=hide hI1
  have HR1:=hide hR1
  clear hw1 hT1 hI1 hR1
  obtain ⟨mk,hmk⟩:∃mk,mk=s.n+1:=⟨_,rfl⟩
  rw [←hmk]
  have m0:0≤mk:=by omega
  have m1:mk≤1099511627776:=by omega
  have HM:=hide hmk
  clear hmk
  go_wp2_with fail
  go_loopw [6] (fun t wr=>∃i:Nat,i≤cap∧t=.int .i64 i∧Touch (fun b=>ao=some b) w1 wr∧∀b,ao=some b→∃f,rowIz wr b 5 cap f∧∀q,q<i→f q=mkB mk q) (fun t _=>cap-(intOf t).toNat)
  case atStart=>
    refine ⟨0,by omega,rfl,Touch.refl _ _,fun b hb=>?_⟩
    obtain ⟨f,hf⟩:=HR1.out b hb
    exact ⟨f,hf,by omega⟩
  case round=>
    obtain ⟨i,hi,rfl,hq,hrows⟩:=hrel
    by_cases hlt:i<cap
    · have hd1:decide ((i:Int)<(cap:Int))=true:=by simp;omega
      have hex:∃b,ao=some b:=by
        cases hao:ao with
        | none=>
          exfalso
          have:=hcapn (by rw [HAD.out,hao];rfl)
          omega
        | some b=>exact ⟨b,rfl⟩
      obtain ⟨b,hao⟩:=hex
      obtain ⟨f,hr,hf⟩:=hrows b hao
      have had:ad=some ⟨b,0,none⟩:=by rw [HAD.out,hao];rfl
      subst had
      have hbl:=hr.lt
      have c0:=hr.cell (i:=i) hlt
      have z0:=hr.frozen hlt
      have HSt:=hide (markB_step hr hf)
      have HT2:=hide hq
      have HAo:=hide hao
      clear hq hrows hr hf hao
      have g0:(0:Int)≤(i:Int):=by omega
      have g1:(i:Int)<(cap:Int):=by omega
      obtain ⟨MB,hMB⟩:∃MB,mkB mk i=.int .u8 MB:=⟨_,rfl⟩
      have HMB:=hide hMB
      go_wp2_with (go_at_call 19;refine (markByte_any _ _ _ m0 m1).mono ?_;rintro e w' ⟨rfl,rfl⟩;rw [hMB])
      clear hMB
      go_roundw
      case rel=>
        obtain ⟨f',hf1,hf2⟩:=HSt.out
        refine ⟨i+1,by omega,by go_num,?_,fun b' hb'=>?_⟩
        · have hSb:(fun b=>ao=some b) b∨w1.heap.size≤b:=.inl HAo.out
          exact HT2.out.setCell (p:=⟨b,i,none⟩) hSb _
        · have e:b'=b:=(Option.some.inj (HAo.out.symm.trans hb')).symm
          subst e
          rw [HMB.out] at hf1
          exact ⟨f',hf1,hf2⟩
      case measure=>simp [intOf];omega
    · have e:i=cap:=by omega
      have hd0:decide ((i:Int)<(cap:Int))=false:=by simp;omega
      have hfull:∀b,ao=some b→rowIz wr b 5 cap (mkB mk):=fun b hb=>by
        obtain ⟨f,hr,hf⟩:=hrows b hb
        exact hr.congr (fun q hq=>hf q (by omega))
      have hIw:HeldInv wr h { s with n:=s.n+1 }:=HI1.out.of_blocks fun b u=>hq.block b (HI1.out.used_lt u) (fun e=>by
        obtain ⟨f,hr⟩:=HR1.out b e
        have hF:=HNe.out b (by rw [HOB.out];exact e)
        obtain ⟨x,hx,hxb⟩:=HI1.out.used_byte u (rowIz_ty hr)
        exact hF x hx hxb)
      have HFull:=hide hfull
      have HIw:=hide hIw
      have HQ:=hide hq
      clear hfull hIw hq hrows
      have c5:wr.cell? ⟨h,2+6,none⟩=some s.vB:=by rw [HIw.out.wd.cell (by omega)];rfl
      have z5:=HIw.out.wd.frozen 8
      have hhl:=HIw.out.wd.lt
      obtain ⟨i0,hi0,hz0,hz1,hz2⟩:=info_parts info_hb
      obtain ⟨ys,hys⟩:∃ys,ys=s.B.flatMap seC:=⟨_,rfl⟩
      have hoS:wr.ownsRow h 67 2 s.vB s.B.length ys:=by
        rw [hys];exact HIw.out.oB
      have HX2:=hide hys
      clear hys
      have hplen:(s.B.length:Int)≤1099511627776:=by
        have hlo:=HIw.out.lo
        simp at hlo;omega
      go_wp2_with (at_builtin;refine wpList_append_lies _ rfl _ _ 33 rfl h 67 i0 (.agg #[.slice none 0 0,.int .i64 0]) 2 32 Tryz.underlying33 hi0 hz0 hz1 hz2 rfl (by omega) s.vB s.B.length ys rfl (hoS.alloc _) ⟨wr.heap.size,0,none⟩ 1 1 [.slice ad cap cap,.int .i64 mk] rfl rfl ?d1 ?d2 (by omega) ?d3 ?d4 ?d5 (wr.heap.size+1) (by simp) ?_)
      try (case d1=>exact news_sp wr [.slice ad cap cap,.int .i64 mk] _ _ rfl)
      case d2=>first | exact ⟨rfl,rfl⟩ | (intro u hu;simp at hu;rcases hu with rfl | rfl <;> rfl)
      case d3=>unfold maxLen;omega
      case d4=>omega
      case d5=>first | omega | (simp;omega)
      intro g1 cap1 w2 hown2 hgrow hat hlt2
      rw [HM.out,HX2.out,HAD.out] at hown2
      have hty:some h≠s.vB.ownBlock:=fun e=>by
        have:=owns_ty hoS e.symm
        rw [row_ty HIw.out.wd] at this
        simp at this
      have hI2:HeldInv (w2.setCell ⟨h,8,none⟩ (.slice (some ⟨g1,0,none⟩) (s.B.length+1) cap1)) h { ({ s with n:=s.n+1 }:HS) with vB:=.slice (some ⟨g1,0,none⟩) (s.B.length+1) cap1,B:=s.B++[(ao,cap,s.n+1)] }:=
        HeldInv.pushB (b:=ao) (m:=cap) (g:=g1) (cap:=cap1) HIw.out (fun b hb=>by show rowIz wr b _ cap (mkB (s.n+1));rw [←HM.out];exact HFull.out b hb) HNil.out hcap (by have:=HH.out.lo;simp at this ⊢;omega) hown2 hgrow hat
      have hT2:Touch (byteS h s (.slice (ao.map fun b=>⟨b,0,none⟩) n cap)) w (w2.setCell ⟨h,8,none⟩ (.slice (some ⟨g1,0,none⟩) (s.B.length+1) cap1)):=by
        have t0:Touch (byteS h s (.slice (ao.map fun b=>⟨b,0,none⟩) n cap)) w w:=Touch.refl _ _
        have t1:=t0.trans' HT1.out (fun x hx=>.inl (.inl hx))
        have t2:=t1.trans' HQ.out (fun x hx=>.inl (.inr (.inr (by rw [HOB.out];exact hx))))
        have t3:=(t2.alloc _).grown hgrow (fun b hb=>.inl (.inr (.inl hb)))
        exact t3.setCell (.inl (.inl (by rfl))) _
      have hsw:w.heap.size≤wr.heap.size:=Nat.le_trans HT1.out.size HQ.out.size
      have hK:BytesKept w s { ({ s with n:=s.n+1 }:HS) with vB:=.slice (some ⟨g1,0,none⟩) (s.B.length+1) cap1,B:=s.B++[(ao,cap,s.n+1)] } (.slice (ao.map fun b=>⟨b,0,none⟩) n cap):=by
        refine ⟨rfl,rfl,rfl,rfl,rfl,rfl,rfl,rfl,fun e he=>?_,?_,rfl,rfl,rfl,rfl,rfl⟩
        · rcases List.mem_append.1 he with he | he
          · exact .inl he
          · simp at he;subst he;exact .inr HOB.out.symm
        · rcases hat with hat | hat
          · exact .inl (by rw [hat];rfl)
          · exact .inr ⟨g1,rfl,by omega⟩
      have HK:=hide hK
      have HI2:=hide hI2
      have HT2:=hide hT2
      have c5':=(hgrow.cell_far ⟨h,2+6,none⟩ (by simp;omega) hty).trans (by go_simp:_=some s.vB)
      have z5':=(hgrow.frozen_far ⟨h,8,none⟩ (by simp;omega) hty).trans (by go_simp:_=false)
      clear hown2 hgrow hat hty hoS hI2 hT2 hK
      go_wp2
      go_end0
      exact ⟨rfl,by rw [HAD.out];exact HT2.out,_,HI2.out,by rw [HAD.out];exact HK.out⟩
def HS.UnderB (s:HS) (B:Nat):Prop:=∀e∈s.B,∀b,e.1=some b→b<B
theorem HeldInv.underB {w:World} {h:Nat} {s:HS} (H:HeldInv w h s):s.UnderB w.heap.size:=fun e he b hb=>(H.eB e he b hb).lt
structure OpV where
  kd:Int
  a:Int
  b:Int
  c:Int
  d:Int
  k:Int
  ad:Option Addr
  N:Nat
  cc:Nat
  A:Nat→Option Addr
  C:Nat→Nat
  n:Nat→Nat
  X:Nat→Nat→Int
  Y:Nat→Nat→Int
  K:Nat→Nat→Int
  m0:Int
  m1:Int
  m2:Int
  m3:Int
  m4:Int
  m5:Int
  g0:Int
  g1:Int
  g2:Int
  g3:Int
  g4:Int
  g5:Int
  g6:Int
  g7:Int
  g8:Int
  uw:Int
  uh:Int
  ua:Option Addr
  un:Nat
  uc:Nat
  U:Nat→Int
  vw:Int
  vh:Int
  va:Option Addr
  vn:Nat
  vc:Nat
  V:Nat→Int
  t:ByteArray
def op0:OpV:=⟨0,0,0,0,0,0,none,0,0,fun _=>none,fun _=>0,fun _=>0,fun _ _=>0,fun _ _=>0,fun _ _=>0,0,0,0,0,0,0,0,0,0,0,0,0,0,0,0,0,0,none,0,0,fun _=>0,0,0,none,0,0,fun _=>0,ByteArray.empty⟩
def opL (o:OpV):List Value:=[.int .i64 o.kd,.int .i64 o.a,.int .i64 o.b,.int .i64 o.c,.int .i64 o.d,.int .i64 o.k,.slice o.ad o.N o.cc,.int .i64 o.m0,.int .i64 o.m1,.int .i64 o.m2,.int .i64 o.m3,.int .i64 o.m4,.int .i64 o.m5,.int .i64 o.g0,.int .i64 o.g1,.int .i64 o.g2,.int .i64 o.g3,.int .i64 o.g4,.int .i64 o.g5,.int .i64 o.g6,.int .i64 o.g7,.int .i64 o.g8,.int .i64 o.uw,.int .i64 o.uh,.slice o.ua o.un o.uc,.int .i64 o.vw,.int .i64 o.vh,.slice o.va o.vn o.vc,.string o.t]
structure OpAt (w:World) (o:OpV) (q:Nat):Prop where
  out:OutAt w o.ad o.N o.A o.C o.n o.X o.Y o.K
  hN:o.N≤q
  hn:∀i,i<o.N→o.n i≤q
  hS:Num.sumN o.n o.N≤q
  bU:ByAt w o.ua o.un o.U
  rU:∀k,k<o.un→0≤o.U k∧o.U k≤255
  hU:o.un≤q
  bV:ByAt w o.va o.vn o.V
  rV:∀k,k<o.vn→0≤o.V k∧o.V k≤255
  hV:o.vn≤q
  ht:o.t.size≤q
  hk:-9223372036854775808≤o.k∧o.k≤9223372036854775807
def ScrAt (w:World) (a:Option Addr) (L:Nat) (ops:Nat→OpV):Prop:=
  L=0∨∃b off,a=some ⟨b,off,none⟩∧b<w.heap.size∧∀i,i<L→∀q,q<29→w.cell? ⟨b,off+i*29+q,none⟩=(opL (ops i))[q]?
end Go.Proofs.YtkhcjkmifddlbabGreatDoor
namespace Go.Proofs.YtkhcjkmifddlbabGreatDoor
open Go.RowKit
section
variable {H:Type} {enc:TypeId×Value→H} {P:Program} {w:World} {base:Nat} {spare:Nat→Bool} {held:Bool}
theorem struct_ints {t ti:TypeId} {fs:Array Field} {fuel:Nat} {cs:List Value} {x:DataW H×List MemPlace}
    (ht:P.underlying t=some (.struct fs)) (hi:P.underlying ti=some (.int .i64)) (h1:P.cellsOf ti=1) (hC:P.cellsOf t=fs.size)
    (hfs:∀i,i<fs.size→∃f,fs[i]? = some f∧f.type=ti∧f.offset=i)
    (h:DataW.trod enc P w base spare held fuel t cs=some x) :
    ∃zs:List Int,cs=zs.map (Value.int .i64)∧zs.length=fs.size∧x=(.agg (zs.map fun z=>.lit (.int .i64 z)),[])∧∀z∈zs,(Lit.int .i64 z).wf=true:=by
  obtain ⟨xs,n,_,rfl,hl,hlen,hf⟩:=DataW.trod_struct ht h
  have key:∀i,i<fs.size→∃z:Int,cs[i]? = some (.int .i64 z)∧xs[i]? = some (.lit (.int .i64 z),[])∧(Lit.int .i64 z).wf=true:=by
    intro i hlt
    obtain ⟨f,hfi,hft,hfo⟩:=hfs i hlt
    have e:=hf i f hfi
    rw [hft,hfo,h1] at e
    have hx:∃y,xs[i]? = some y:=⟨xs[i],List.getElem?_eq_getElem (by omega)⟩
    obtain ⟨y,hy⟩:=hx
    rw [hy] at e
    obtain ⟨z,hc,hz,hw⟩:=DataW.trod_int hi e
    refine ⟨z,?_,by rw [hy,hz],hw⟩
    have:=congrArg (fun l=>l[0]?) hc
    simpa [List.getElem?_take,List.getElem?_drop] using this
  refine ⟨cs.map intOf,?_,by simp;omega,?_,?_⟩
  · apply List.ext_getElem?
    intro i
    by_cases hlt:i<fs.size
    · obtain ⟨z,hc,_,_⟩:=key i hlt
      simp [hc,intOf]
    · rw [List.getElem?_eq_none (by omega),List.getElem?_eq_none (by simp;omega)]
  · have e1:xs.map (·.1)=(cs.map intOf).map fun z=>DataW.lit (.int .i64 z):=by
      apply List.ext_getElem?
      intro i
      by_cases hlt:i<fs.size
      · obtain ⟨z,hc,hx,_⟩:=key i hlt
        simp [hc,hx,intOf]
      · rw [List.getElem?_eq_none (by simp;omega),List.getElem?_eq_none (by simp;omega)]
    have e2:xs.flatMap (·.2)=[]:=by
      rw [List.flatMap_eq_nil_iff]
      intro y hy
      obtain ⟨i,hi',rfl⟩:=List.mem_iff_getElem.1 hy
      obtain ⟨z,_,hx,_⟩:=key i (by omega)
      rw [List.getElem?_eq_getElem hi'] at hx
      simp at hx
      rw [hx]
    rw [e1,e2]
  · intro z hz
    obtain ⟨i,hi',rfl⟩:=List.mem_iff_getElem.1 hz
    simp at hi'
    obtain ⟨z',hc,_,hw⟩:=key i (by omega)
    have:cs[i]=.int .i64 z':=by
      rw [List.getElem?_eq_getElem hi'] at hc
      simpa using hc
    simp [this,intOf]
    exact hw
end
theorem list2 {α:Type} {l:List α} (h:l.length=2):∃a b,l=[a,b]:=by
  match l,h with
  | [a,b],_=>exact ⟨a,b,rfl⟩
theorem list3 {α:Type} {l:List α} (h:l.length=3):∃a b c,l=[a,b,c]:=by
  match l,h with
  | [a,b,c],_=>exact ⟨a,b,c,rfl⟩
end Go.Proofs.YtkhcjkmifddlbabGreatDoor
namespace Go.Proofs.YtkhcjkmifddlbabGreatDoor
open Go.ChangeShapes Go.WideShapes Go.ChangeAt Go.RowKit Go.Deep
theorem cells_i:Tryz.prog.cellsOf 3=1:=by kernel_rfl
theorem cells_p:Tryz.prog.cellsOf 129=3:=by kernel_rfl
theorem cells_s:Tryz.prog.cellsOf 125=1:=by kernel_rfl
theorem addr_form {w:World} {a:Addr} {v:Value} (h:w.cell? (a.add 0)=some v):a=⟨a.block,a.off,none⟩:=by
  have hs:=World.cell?_spot h
  obtain ⟨b,off,spot⟩:=a
  simp [Addr.add] at hs
  rw [hs]
theorem addr_add (b off i:Nat):((⟨b,off,none⟩:Addr).add i)=⟨b,off+i,none⟩:=by
  unfold Addr.add
  split
  · rename_i h;simp_all
  · simp
section
variable {H:Type} {enc:TypeId×Value→H} {w:World} {spare:Nat→Bool} {held:Bool}
set_option maxRecDepth 100000 in
theorem open_pt {fuel:Nat} {cs:List Value} {x:DataW H×List MemPlace} (h:DataW.trod enc Tryz.prog w 0 spare held fuel 129 cs=some x):∃a b c:Int,cs=[.int .i64 a,.int .i64 b,.int .i64 c]:=by
  obtain ⟨zs,hz,hl,_,_⟩:=struct_ints Tryz.underlying129 Tryz.underlying3 cells_i cells_p (by
    intro i hi
    have hi:i<3:=hi
    rcases (show i=0∨i=1∨i=2 by omega) with rfl | rfl | rfl <;> exact ⟨_,rfl,rfl,rfl⟩) h
  obtain ⟨a,b,c,rfl⟩:=list3 hl
  exact ⟨a,b,c,by simpa using hz⟩
def RingRead (w:World) (v:Value) (d:DataW H) (r:Option Addr×Nat×Nat×(Nat→Int)×(Nat→Int)×(Nat→Int)):Prop:=
  v=.slice r.1 r.2.1 r.2.2.1∧RingAt w r.1 r.2.1 r.2.2.2.1 r.2.2.2.2.1 r.2.2.2.2.2∧r.2.1+1≤Rows.uptoBulk d
theorem bulk_len (l:List (DataW H)):l.length≤Rows.uptoBulkAll l:=by
  induction l with
  | nil=>simp [Rows.uptoBulkAll]
  | cons x r ih=>
    have:1≤Rows.uptoBulk x:=by
      cases x with
      | lit l=>cases l <;> simp [Rows.uptoBulk]
      | nil=>simp [Rows.uptoBulk]
      | ptr d=>simp [Rows.uptoBulk]
      | slice elems spare=>simp [Rows.uptoBulk]
      | agg parts=>simp [Rows.uptoBulk]
      | iface t d=>simp [Rows.uptoBulk]
      | map entries=>simp [Rows.uptoBulk]
      | held h=>simp [Rows.uptoBulk]
    simp only [Rows.uptoBulkAll,List.length_cons];omega
set_option maxRecDepth 100000 in
theorem open_ring {fuel:Nat} {v:Value} {x:DataW H×List MemPlace} (h:DataW.trod enc Tryz.prog w 0 spare held fuel 125 [v]=some x):∃r,RingRead w v x.1 r:=by
  rcases open_slice Tryz.underlying125 h with ⟨hcs,rfl⟩ | ⟨a,len,cap,m,n,D,Pl,hcs,_,hl,hm,hmm,rfl,hx⟩
  · simp at hcs
    exact ⟨(none,0,0,fun _=>0,fun _=>0,fun _=>0),hcs,.inl rfl,by simp [Rows.uptoBulk]⟩
  · simp at hcs
    rw [cells_p] at hx
    have hlm:len≤m:=by rw [hmm];split <;> omega
    have key:∀i,∃q:Int×Int×Int,i<len→w.cell? (a.add (i*3))=some (.int .i64 q.1)∧w.cell? ((a.add (i*3)).add 1)=some (.int .i64 q.2.1)∧w.cell? ((a.add (i*3)).add 2)=some (.int .i64 q.2.2):=by
      intro i
      by_cases hi:i<len
      · obtain ⟨cs',h1,h2⟩:=hx i (by omega)
        obtain ⟨p,q,r,rfl⟩:=open_pt h2
        obtain ⟨_,_,h3⟩:=World.cells?_some h1
        refine ⟨(p,q,r),fun _=>⟨?_,?_,?_⟩⟩
        · have:=h3 0 (by omega)
          simpa [Addr.add] using this
        · exact h3 1 (by omega)
        · exact h3 2 (by omega)
      · exact ⟨(0,0,0),fun h=>absurd h hi⟩
    obtain ⟨f,hf⟩:=Classical.skolem.1 key
    refine ⟨(some a,len,cap,fun i=>(f i).1,fun i=>(f i).2.1,fun i=>(f i).2.2),hcs,?_,?_⟩
    · rcases Nat.eq_zero_or_pos len with h0 | h0
      · exact .inl h0
      · have e:=addr_form (by simpa using (hf 0 h0).1)
        refine .inr ⟨a.block,a.off,by rw [←e],fun k hk=>?_⟩
        obtain ⟨c0,c1,c2⟩:=hf k hk
        rw [e,addr_add] at c0
        rw [e,addr_add,addr_add] at c1 c2
        exact ⟨c0,c1,c2⟩
    · simp only [Rows.uptoBulk]
      have:=bulk_len ((List.range len).map D)
      simp at this
      omega
set_option maxRecDepth 100000 in
theorem open_outline {fuel:Nat} {v:Value} {x:DataW H×List MemPlace} (h:DataW.trod enc Tryz.prog w 0 spare held fuel 38 [v]=some x) :
    ∃(a:Option Addr) (N c:Nat) (A:Nat→Option Addr) (C n:Nat→Nat) (X Y K:Nat→Nat→Int),v=.slice a N c∧OutAt w a N A C n X Y K∧N≤Rows.uptoBulk x.1∧(∀i,i<N→n i≤Rows.uptoBulk x.1)∧Num.sumN n N≤Rows.uptoBulk x.1:=by
  rcases open_slice1 Tryz.underlying38 cells_s h with ⟨hcs,rfl⟩ | ⟨a,len,cap,m,n,V,D,Pl,hcs,_,hl,hm,hmm,rfl,hx⟩
  · simp at hcs
    exact ⟨none,0,0,fun _=>none,fun _=>0,fun _=>0,fun _ _=>0,fun _ _=>0,fun _ _=>0,hcs,⟨.inl rfl,fun i hi=>by omega⟩,by omega,fun i hi=>by omega,by simp [Num.sumN]⟩
  · simp at hcs
    have hlm:len≤m:=by rw [hmm];split <;> omega
    have key:∀i,∃r,i<len→RingRead w (V i) (D i) r:=by
      intro i
      by_cases hi:i<len
      · obtain ⟨r,hr⟩:=open_ring (hx i (by omega)).2
        exact ⟨r,fun _=>hr⟩
      · exact ⟨(none,0,0,fun _=>0,fun _=>0,fun _=>0),fun h=>absurd h hi⟩
    obtain ⟨f,hf⟩:=Classical.skolem.1 key
    have hsum:∀k,k≤len→Num.sumN (fun i=>(f i).2.1) k≤Rows.uptoBulkAll ((List.range k).map D):=by
      intro k
      induction k with
      | zero=>intro _;simp [Num.sumN]
      | succ k ih=>
        intro hk
        have i1:=ih (by omega)
        have i2:=(hf k (by omega)).2.2
        have e:Rows.uptoBulkAll ((List.range (k+1)).map D)=Rows.uptoBulkAll ((List.range k).map D)+Rows.uptoBulk (D k):=by
          rw [List.range_succ,List.map_append]
          have ap:∀(l r:List (DataW H)),Rows.uptoBulkAll (l++r)=Rows.uptoBulkAll l+Rows.uptoBulkAll r:=by
            intro l r
            induction l with
            | nil=>simp [Rows.uptoBulkAll]
            | cons x l ih=>simp only [List.cons_append,Rows.uptoBulkAll,ih];omega
          rw [ap];simp [Rows.uptoBulkAll]
        rw [e]
        simp only [Num.sumN]
        omega
    have hN:=bulk_len ((List.range len).map D)
    simp at hN
    have hS:=hsum len (Nat.le_refl _)
    have hb:Rows.uptoBulkAll ((List.range len).map D)≤Rows.uptoBulk (.slice ((List.range len).map D) ((List.range (m-len)).map fun j=>D (len+j))):=by
      simp only [Rows.uptoBulk];omega
    refine ⟨some a,len,cap,fun i=>(f i).1,fun i=>(f i).2.2.1,fun i=>(f i).2.1,fun i=>(f i).2.2.2.1,fun i=>(f i).2.2.2.2.1,fun i=>(f i).2.2.2.2.2,hcs,⟨?_,fun i hi=>(hf i hi).2.1⟩,by dsimp only;omega,?_,by dsimp only;omega⟩
    · rcases Nat.eq_zero_or_pos len with h0 | h0
      · exact .inl h0
      · have e:=addr_form (hx 0 (by omega)).1
        refine .inr ⟨a.block,a.off,by rw [←e],fun i hi=>?_⟩
        have c:=(hx i (by omega)).1
        rw [e,addr_add,(hf i hi).1] at c
        exact c
    · intro i hi
      have h1:=Num.sumN_mono (fun i=>(f i).2.1) (show i+1≤len by omega)
      simp only [Num.sumN] at h1
      dsimp only
      omega
end
end Go.Proofs.YtkhcjkmifddlbabGreatDoor
namespace Go.Proofs.YtkhcjkmifddlbabGreatDoor
open Go.ChangeShapes Go.WideShapes Go.ChangeAt Go.RowKit Go.Deep
theorem own_k:ownKnob Tryz.prog.godebug=none:=by kernel_rfl
theorem laidOut_k:laidOutB Tryz.prog=true:=by kernel_rfl
section
variable {H:Type} {enc:TypeId×Value→H} {w:World} {spare:Nat→Bool} {held:Bool}
end
end Go.Proofs.YtkhcjkmifddlbabGreatDoor
namespace Go.Proofs.YtkhcjkmifddlbabGreatDoor
open Go.ChangeShapes Go.WideShapes Go.ChangeAt Go.RowKit Go.Deep
theorem cells_gray:Tryz.prog.cellsOf 47=3:=by kernel_rfl
theorem cells_bys:Tryz.prog.cellsOf 45=1:=by kernel_rfl
theorem cells_by:Tryz.prog.cellsOf 5=1:=by kernel_rfl
theorem list3g {α:Type} {l:List α} (h:l.length=3):∃a b c,l=[a,b,c]:=by
  match l,h with
  | [a,b,c],_=>exact ⟨a,b,c,rfl⟩
theorem u8_wf {z:Int} (h:(Lit.int .u8 z).wf=true):0≤z∧z≤255:=by
  have m1:IntKind.u8.min=0:=by decide
  have m2:IntKind.u8.max=255:=by decide
  simp only [Lit.wf,Bool.and_eq_true,decide_eq_true_eq,m1,m2] at h
  exact h
section
variable {H:Type} {enc:TypeId×Value→H} {w:World} {spare:Nat→Bool} {held:Bool}
set_option maxRecDepth 100000 in
theorem open_bytes {fuel:Nat} {v:Value} {x:DataW H×List MemPlace} (h:DataW.trod enc Tryz.prog w 0 spare held fuel 45 [v]=some x) :
    ∃(a:Option Addr) (n c:Nat) (X:Nat→Int),v=.slice a n c∧ByAt w a n X∧(∀k,k<n→0≤X k∧X k≤255)∧(n=0∨∃D S,x.1=.slice D S∧D.length=n):=by
  rcases open_slice Tryz.underlying45 h with ⟨hcs,rfl⟩ | ⟨a,len,cap,m,n,D,Pl,hcs,_,hl,hm,hmm,rfl,hx⟩
  · simp at hcs
    exact ⟨none,0,0,fun _=>0,hcs,.inl rfl,fun k hk=>by omega,.inl rfl⟩
  · simp at hcs
    rw [cells_by] at hx
    have hlm:len≤m:=by rw [hmm];split <;> omega
    have key:∀i,∃q:Int,i<len→w.cell? (a.add (i*1))=some (.int .u8 q)∧0≤q∧q≤255:=by
      intro i
      by_cases hi:i<len
      · obtain ⟨cs',h1,h2⟩:=hx i (by omega)
        obtain ⟨z,rfl,_,hw⟩:=DataW.trod_int Tryz.underlying5 h2
        obtain ⟨_,_,h3⟩:=World.cells?_some h1
        refine ⟨z,fun _=>⟨?_,u8_wf hw⟩⟩
        have:=h3 0 (by omega)
        simpa [Addr.add] using this
      · exact ⟨0,fun h=>absurd h hi⟩
    obtain ⟨f,hf⟩:=Classical.skolem.1 key
    refine ⟨some a,len,cap,f,hcs,?_,fun k hk=>(hf k hk).2,.inr ⟨_,_,rfl,by simp⟩⟩
    rcases Nat.eq_zero_or_pos len with h0 | h0
    · exact .inl h0
    · have e:=addr_form (by simpa using (hf 0 h0).1)
      refine .inr ⟨a.block,a.off,by rw [←e],fun k hk=>?_⟩
      have c0:=(hf k hk).1
      rw [e,addr_add,Nat.mul_one] at c0
      exact c0
set_option maxRecDepth 100000 in
theorem open_gray {fuel:Nat} {cs:List Value} {x:DataW H×List MemPlace} (h:DataW.trod enc Tryz.prog w 0 spare held fuel 47 cs=some x) :
    ∃(W HH:Int) (a:Option Addr) (n c:Nat) (X:Nat→Int),cs=[.int .i64 W,.int .i64 HH,.slice a n c]∧ByAt w a n X∧(∀k,k<n→0≤X k∧X k≤255)∧(n=0∨∃e0 e1 D S,x.1=.agg [e0,e1,.slice D S]∧D.length=n):=by
  obtain ⟨xs,n,_,rfl,hl,hlen,hf⟩:=DataW.trod_struct Tryz.underlying47 h
  have hl3:cs.length=3:=by first | exact hl.trans cells_gray | (rw [cells_gray] at hl;exact hl) | (rw [cells_gray] at hl;exact hl.symm)
  obtain ⟨c0,c1,c2,rfl⟩:=list3g hl3
  have hlen3:xs.length=3:=hlen
  obtain ⟨y0,y1,y2,rfl⟩:=list3g hlen3
  have e0:=hf 0 _ rfl
  have e1:=hf 1 _ rfl
  have e2:=hf 2 _ rfl
  change DataW.trod enc Tryz.prog w 0 spare held n 3 (([c0,c1,c2].drop 0).take (Tryz.prog.cellsOf 3))=some y0 at e0
  change DataW.trod enc Tryz.prog w 0 spare held n 3 (([c0,c1,c2].drop 1).take (Tryz.prog.cellsOf 3))=some y1 at e1
  change DataW.trod enc Tryz.prog w 0 spare held n 45 (([c0,c1,c2].drop 2).take (Tryz.prog.cellsOf 45))=some y2 at e2
  rw [cells_i] at e0 e1
  rw [cells_bys] at e2
  change DataW.trod enc Tryz.prog w 0 spare held n 3 [c0]=some y0 at e0
  change DataW.trod enc Tryz.prog w 0 spare held n 3 [c1]=some y1 at e1
  change DataW.trod enc Tryz.prog w 0 spare held n 45 [c2]=some y2 at e2
  obtain ⟨z0,h0,_,_⟩:=DataW.trod_int Tryz.underlying3 e0
  obtain ⟨z1,h1,_,_⟩:=DataW.trod_int Tryz.underlying3 e1
  obtain ⟨a,k,c,X,hv,hb,hbd,hd⟩:=open_bytes e2
  simp at h0 h1
  subst h0 h1 hv
  refine ⟨z0,z1,a,k,c,X,rfl,hb,hbd,?_⟩
  rcases hd with hd | ⟨D,S,hd,hD⟩
  · exact .inl hd
  · refine .inr ⟨y0.1,y1.1,D,S,?_,hD⟩
    simp [hd]
end
end Go.Proofs.YtkhcjkmifddlbabGreatDoor
namespace Go.Proofs.YtkhcjkmifddlbabGreatDoor
open Go.ChangeShapes Go.WideShapes Go.ChangeAt Go.RowKit
theorem cellsIntB:Tryz.prog.cellsOf 3=1:=by kernel_rfl
theorem cellsSpotB:Tryz.prog.cellsOf 42=2:=by kernel_rfl
theorem cellsSegB:Tryz.prog.cellsOf 44=9:=by kernel_rfl
section
variable {H:Type} {enc:TypeId×Value→H} {w:World} {base:Nat} {spare:Nat→Bool} {held:Bool}
set_option maxRecDepth 100000 in
theorem trod_spot {fuel:Nat} {cs:List Value} {x:DataW H×List MemPlace} (h:DataW.trod enc Tryz.prog w base spare held fuel 42 cs=some x):∃a b:Int,cs=[.int .i64 a,.int .i64 b]:=by
  obtain ⟨zs,hz,hl,_,_⟩:=struct_ints Tryz.underlying42 Tryz.underlying3 cellsIntB cellsSpotB (by
    intro i hi
    have hi:i<2:=hi
    rcases (show i=0∨i=1 by omega) with rfl | rfl <;> exact ⟨_,rfl,rfl,rfl⟩) h
  obtain ⟨a,b,rfl⟩:=list2 hl
  exact ⟨a,b,by simpa using hz⟩
set_option maxRecDepth 100000 in
theorem trod_seg {fuel:Nat} {cs:List Value} {x:DataW H×List MemPlace} (h:DataW.trod enc Tryz.prog w base spare held fuel 44 cs=some x) :
    ∃k x0 y0 x1 y1 x2 y2 x3 y3:Int,cs=[.int .i64 k,.int .i64 x0,.int .i64 y0,.int .i64 x1,.int .i64 y1,.int .i64 x2,.int .i64 y2,.int .i64 x3,.int .i64 y3]:=by
  obtain ⟨xs,n,_,_,hl,hlen,hf⟩:=DataW.trod_struct Tryz.underlying44 h
  rw [cellsSegB] at hl
  have hlen:xs.length=5:=hlen
  have part:∀i,i<5→∃y,xs[i]? = some y:=fun i hi=>⟨xs[i],List.getElem?_eq_getElem (by omega)⟩
  obtain ⟨w0,e0⟩:=part 0 (by omega)
  obtain ⟨w1,e1⟩:=part 1 (by omega)
  obtain ⟨w2,e2⟩:=part 2 (by omega)
  obtain ⟨w3,e3⟩:=part 3 (by omega)
  obtain ⟨w4,e4⟩:=part 4 (by omega)
  have f0:DataW.trod enc Tryz.prog w base spare held n 3 ((cs.drop 0).take (Tryz.prog.cellsOf 3))=xs[0]?:=hf 0 _ rfl
  have f1:DataW.trod enc Tryz.prog w base spare held n 42 ((cs.drop 1).take (Tryz.prog.cellsOf 42))=xs[1]?:=hf 1 _ rfl
  have f2:DataW.trod enc Tryz.prog w base spare held n 42 ((cs.drop 3).take (Tryz.prog.cellsOf 42))=xs[2]?:=hf 2 _ rfl
  have f3:DataW.trod enc Tryz.prog w base spare held n 42 ((cs.drop 5).take (Tryz.prog.cellsOf 42))=xs[3]?:=hf 3 _ rfl
  have f4:DataW.trod enc Tryz.prog w base spare held n 42 ((cs.drop 7).take (Tryz.prog.cellsOf 42))=xs[4]?:=hf 4 _ rfl
  rw [e0] at f0
  rw [e1] at f1
  rw [e2] at f2
  rw [e3] at f3
  rw [e4] at f4
  rw [cellsIntB] at f0
  rw [cellsSpotB] at f1 f2 f3 f4
  obtain ⟨k,g0,_,_⟩:=DataW.trod_int Tryz.underlying3 f0
  obtain ⟨x0,y0,g1⟩:=trod_spot f1
  obtain ⟨x1,y1,g2⟩:=trod_spot f2
  obtain ⟨x2,y2,g3⟩:=trod_spot f3
  obtain ⟨x3,y3,g4⟩:=trod_spot f4
  refine ⟨k,x0,y0,x1,y1,x2,y2,x3,y3,?_⟩
  match cs,hl with
  | [c0,c1,c2,c3,c4,c5,c6,c7,c8],_=>
    simp at g0 g1 g2 g3 g4
    simp [g0,g1,g2,g3,g4]
end
end Go.Proofs.YtkhcjkmifddlbabGreatDoor
