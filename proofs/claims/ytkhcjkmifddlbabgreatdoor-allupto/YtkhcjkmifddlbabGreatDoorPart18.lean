import Derived.Test.YtkhcjkmifddlbabGreatDoorPart17
import Derived.Test.YtkhcjkmifddlbabGreatDoorPart16
set_option maxHeartbeats 8000000
namespace Go.Proofs.YtkhcjkmifddlbabGreatDoor
open Go.RowKit Go.Deep
def cuLeft (w:World) (cb:Nat):Nat:=match w.cell? ⟨cb,0,none⟩ with
  | some (.string t)=>t.size
  | _=>0
theorem cuLeft_row {w:World} {cb:Nat} {t:TypeId} {s:ByteArray} {p:Nat} {b:Bool} (h:w.rowIs cb t 2 (cu2 s p b)):cuLeft w cb=s.size-p:=by
  unfold cuLeft
  rw [(cu_cells h).1]
  exact tl_size s p
theorem CuTo.touch {w wr w':World} {cb:Nat} {s:ByteArray} {b:Bool} {o:Option Nat} (h:CuTo wr w' cb s b o) (hT:Touch (fun q=>q=cb) w wr):CuTo w w' cb s b o:=⟨hT.trans h.1,h.2⟩
theorem touch_cu {w wr:World} {cb k:Nat} {v:Value} (h:Touch (fun q=>q=cb) w wr):Touch (fun q=>q=cb) w (wr.setCell ⟨cb,k,none⟩ v):=h.setCell (p:=⟨cb,k,none⟩) (.inl rfl) _
set_option maxRecDepth 100000 in
theorem cuRemark_any (cb:Nat) (s:ByteArray) (p:Nat) (b:Bool) (w:World) (_hs:s.size≤8192) (hp:p≤s.size) (h:w.rowIs cb 164 2 (cu2 s p b)) :
    Calls Tryz.prog 144 #[.pointer (some ⟨cb,0,none⟩)] w fun e w'=>e=.returned (.tuple #[])∧CuTo w w' cb s b (Num.remV s p)∧(Num.remV s p=none→cuLeft w' cb=0):=by
  have HH:=hide h
  clear h
  go_enter Tryz.func144,Tryz.ntmps144
  go_wp2_with fail
  go_loopw [] (fun wr=>∃q:Nat,q≤s.size∧wr.rowIs cb 164 2 (cu2 s q b)∧Touch (fun q=>q=cb) w wr∧Num.remV s p=Num.remV s q) (fun wr=>cuLeft wr cb)
  case atStart=>exact ⟨p,hp,HH.out,Touch.refl _ _,rfl⟩
  case round=>
    obtain ⟨q,hq,hrow,hT,hV⟩:=hrel
    obtain ⟨c0,c1,z0,z1⟩:=cu_cells hrow
    have hrl:=hrow.lt
    have HRow:=hide hrow
    have HT:=hide hT
    have HAt:=hide (cuLeft_row hrow)
    have HV:=hide hV
    have hnl:=tl_nil hq
    have hts:=tl_size s q
    clear hrow hT hV
    by_cases h1:q<s.size
    · rw [show decide (q=s.size)=false by simp;omega] at hnl
      have g2:(1:Int)≤((tl s q).size:Int):=by omega
      have g3:0<(tl s q).size:=by omega
      have htd:=tl_drop' (s:=s) (p:=q) (k:=1) (by omega)
      have hix:=tl_ix (s:=s) (p:=q) (k:=0) g3
      rw [Nat.add_zero] at hix
      by_cases h10:Num.byt s q=10
      · have HR:Hid (Num.remV s p=some (q+1)):=by unfold Hid;rw [HV.out,Num.remV,if_pos h1,if_pos h10]
        have e1:((Num.byt s q:Nat):Int)=10:=by omega
        rw [e1] at hix
        go_wp2
        exact bodyPost_ret (results_none rfl _ _ _) rfl ⟨rfl,(CuTo.go (q+1) (Touch.refl _ _) HRow.out (by omega) HR.out).touch HT.out,fun e=>by rw [HR.out] at e;cases e⟩
      · have HR:Hid (Num.remV s p=Num.remV s (q+1)):=by unfold Hid;rw [HV.out];conv=>lhs;rw [Num.remV,if_pos h1,if_neg h10]
        have e1:(((Num.byt s q:Nat):Int) == 10)=false:=by simp;omega
        have e2:¬((Num.byt s q:Nat):Int)=10:=by omega
        go_wp2
        go_roundw
        case rel=>exact ⟨q+1,by omega,cu_at HRow.out (q+1),touch_cu HT.out,HR.out⟩
        case measure=>rw [HAt.out,cuLeft_row (cu_at HRow.out (q+1))];omega
    · rw [show decide (q=s.size)=true by simp;omega] at hnl
      have HR:Hid (Num.remV s p=none):=by unfold Hid;rw [HV.out,Num.remV,if_neg h1]
      go_wp2
      go_end0
      exact ⟨rfl,(CuTo.bad (Touch.refl _ _) HRow.out hq (.inl HR.out)).touch HT.out,fun _=>by rw [cuLeft_row (cu_bad HRow.out)];omega⟩
set_option maxRecDepth 100000 in
theorem cuGap_any (cb:Nat) (s:ByteArray) (p:Nat) (b:Bool) (w:World) (hs:s.size≤8192) (hp:p≤s.size) (h:w.rowIs cb 164 2 (cu2 s p b)) :
    Calls Tryz.prog 98 #[.pointer (some ⟨cb,0,none⟩)] w fun e w'=>e=.returned (.tuple #[])∧CuTo w w' cb s b (Num.gapV s p):=by
  have HSp:=hide (cuBlank_any cb s p b w hs hp h)
  have HRem:=hide (fun q b w' (hq:q≤s.size) (h:w'.rowIs cb 164 2 (cu2 s q b))=>cuRemark_any cb s q b w' hs hq h)
  have HBl:=hide (fun q b w' (hq:q≤s.size) (h:w'.rowIs cb 164 2 (cu2 s q b))=>cuBlank_any cb s q b w' hs hq h)
  clear h
  go_enter Tryz.func98,Tryz.ntmps98
  go_wp2_with fail
  refine HSp.out.mono ?_
  rintro e w1 ⟨rfl,hT1,p1,hrow1,hp1,hq1⟩
  have HT1:=hide hT1
  have HRow1:=hide hrow1
  have HG:Hid (∃b1,b1=(b || (Num.spV s p).isNone)∧((b1=false∧b=false∧Num.gapV s p=Num.skipV s p1)∨(b1=true∧(b=true∨Num.gapV s p=none)))):=by
    refine ⟨_,rfl,?_⟩
    unfold Num.gapV
    cases b with
    | true=>right;simp
    | false=>
      cases hsp:Num.spV s p with
      | none=>right;simp
      | some r=>left;rw [hq1 r rfl hsp];simp
  obtain ⟨b1,hb1,hG⟩:=HG.out
  rw [←hb1] at HRow1
  have HG1:=hide hG
  clear hT1 hrow1 hq1 hb1 hG HG HSp
  go_wp2_with fail
  go_loopw [] (fun wr=>∃(q:Nat) (b2:Bool),q≤s.size∧wr.rowIs cb 164 2 (cu2 s q b2)∧Touch (fun q=>q=cb) w wr∧((b2=false∧b=false∧Num.gapV s p=Num.skipV s q)∨(b2=true∧(b=true∨Num.gapV s p=none)))) (fun wr=>cuLeft wr cb)
  case atStart=>exact ⟨p1,b1,hp1,HRow1.out,HT1.out,HG1.out⟩
  case round=>
    clear HG1 HRow1 HT1
    obtain ⟨q,b2,hq,hrow,hT,hV⟩:=hrel
    obtain ⟨c0,c1,z0,z1⟩:=cu_cells hrow
    have hrl:=hrow.lt
    have HRow:=hide hrow
    have HT:=hide hT
    have HAt:=hide (cuLeft_row hrow)
    have HV:=hide hV
    have hnl:=tl_nil hq
    have hts:=tl_size s q
    clear hrow hT hV
    cases b2
    · have hV2:b=false∧Num.gapV s p=Num.skipV s q:=by
        rcases HV.out with ⟨_,e1,e2⟩ | ⟨e1,_⟩
        · exact ⟨e1,e2⟩
        · cases e1
      obtain ⟨hbf,hG⟩:=hV2
      have HGf:=hide hG
      have HBf:=hide hbf
      clear hG hbf HV
      have fin:Hid (Num.skipV s q=some q→CuTo w wr cb s b (Num.gapV s p)):=fun hsk=>by
        refine ⟨HT.out,q,?_,hq,fun r _ hr=>by rw [HGf.out,hsk] at hr;simp at hr;exact hr⟩
        rw [HGf.out,hsk,HBf.out]
        exact HRow.out
      by_cases h1:q<s.size
      · rw [show decide (q=s.size)=false by simp;omega] at hnl
        have g3:0<(tl s q).size:=by omega
        have hix:=tl_ix (s:=s) (p:=q) (k:=0) g3
        rw [Nat.add_zero] at hix
        by_cases h35:Num.byt s q=35
        · have e1:((Num.byt s q:Nat):Int)=35:=by omega
          rw [e1] at hix
          have HSk:=hide (fun r (hr:Num.remV s q=some r)=>Num.skipV_rem h1 h35 hr)
          have HSb:=hide (fun (hr:Num.remV s q=none)=>Num.skipV_bad h1 h35 hr)
          go_wp2_with fail
          refine (HRem.out q false _ hq HRow.out).mono ?_
          rintro e w2 ⟨rfl,⟨hT2,q2,hrow2,hq2,hq3⟩,hend0⟩
          have HT2:Hid (Touch (fun q=>q=cb) w w2):=HT.out.trans hT2
          have HRow2:=hide hrow2
          have HV2:Hid (((false || (Num.remV s q).isNone)=false∧b=false∧Num.gapV s p=Num.skipV s q2)∨((false || (Num.remV s q).isNone)=true∧(b=true∨Num.gapV s p=none))):=by
            unfold Hid
            cases hr:Num.remV s q with
            | none=>right;exact ⟨rfl,.inr (by rw [HGf.out,HSb.out hr])⟩
            | some r=>left;exact ⟨rfl,HBf.out,by rw [HGf.out,HSk.out r hr,hq3 r rfl hr]⟩
          have HM:Hid (s.size-q2<s.size-q):=by
            unfold Hid
            cases hr:Num.remV s q with
            | none=>have:=hend0 hr;rw [cuLeft_row hrow2] at this;omega
            | some r=>have:=Num.remV_gt s _ q r (Nat.le_refl _) hr;rw [hq3 r rfl hr];omega
          clear hT2 hrow2 hq3 hend0
          go_wp2
          go_roundw
          case rel=>exact ⟨q2,_,hq2,HRow2.out,HT2.out,HV2.out⟩
          case measure=>rw [HAt.out,cuLeft_row HRow2.out];exact HM.out
        · have e1:(((Num.byt s q:Nat):Int) == 35)=false:=by simp;omega
          have e2:¬((Num.byt s q:Nat):Int)=35:=by omega
          have HWh:=hide (fun w'=>white_any (Num.byt s q) w')
          cases hsp:Num.isSp (Num.byt s q)
          · rw [hsp] at HWh
            have HSk:=hide (Num.skipV_stop h1 h35 hsp)
            go_wp2_with (go_at_call 145;refine (HWh.out _).mono ?_;rintro e w' ⟨rfl,hw'⟩;rw [hw'];clear hw')
            exact bodyPost_ret (results_none rfl _ _ _) rfl ⟨rfl,fin.out HSk.out⟩
          · rw [hsp] at HWh
            have HSk:=hide (Num.skipV_sp h1 h35 hsp)
            have hsv:Num.spV s q=some (q+1):=by unfold Num.spV;rw [if_pos ⟨h1,hsp⟩]
            have HSv:=hide hsv
            clear hsv
            go_wp2_with (go_at_call 145;refine (HWh.out _).mono ?_;rintro e w' ⟨rfl,hw'⟩;rw [hw'];clear hw')
            refine (HBl.out q false _ hq HRow.out).mono ?_
            rintro e w2 ⟨rfl,hT2,q2,hrow2,hq2,hq3⟩
            have hq4:=hq3 _ rfl HSv.out
            subst hq4
            rw [HSv.out] at hrow2
            have HT2:Hid (Touch (fun q=>q=cb) w w2):=HT.out.trans hT2
            have HRow2:=hide hrow2
            clear hT2 hrow2 hq3
            go_wp2
            go_roundw
            case rel=>exact ⟨q+1,_,hq2,HRow2.out,HT2.out,.inl ⟨rfl,HBf.out,by rw [HGf.out,HSk.out]⟩⟩
            case measure=>rw [HAt.out,cuLeft_row HRow2.out];omega
      · rw [show decide (q=s.size)=true by simp;omega] at hnl
        have HSk:=hide (Num.skipV_end (s:=s) (p:=q) (by omega))
        go_wp2
        go_end0
        exact ⟨rfl,fin.out HSk.out⟩
    · have hV2:b=true∨Num.gapV s p=none:=by
        rcases HV.out with ⟨e1,_⟩ | ⟨_,e2⟩
        · cases e1
        · exact e2
      have HE:=hide hV2
      clear hV2 HV
      go_wp2
      go_end0
      refine ⟨rfl,HT.out,q,?_,hq,fun r hb hr=>by rcases HE.out with e | e <;> simp_all⟩
      rw [show (b || (Num.gapV s p).isNone)=true by rcases HE.out with e | e <;> simp [e]]
      exact HRow.out
def digL (v:Nat):List UInt8:=if v<10 then [UInt8.ofNat (48+v)] else [UInt8.ofNat (48+v / 10),UInt8.ofNat (48+v % 10)]
def digS (v:Nat):ByteArray:=⟨(digL v).toArray⟩
theorem digS_list (v:Nat):(digS v).toList=digL v:=ByteArray.toList_mk _
theorem u8_nat {n:Nat} (h:n<256):(UInt8.ofNat n).toNat=n:=by simp [UInt8.toNat_ofNat'];omega
theorem alloc_cellD (w:World) (C:Array Value) (t:TypeId) {j:Nat} (hj:j<C.size):(w.alloc (.cells C t)).cell? ⟨w.heap.size,j,none⟩=some C[j]:=
  (World.rowIs_alloc w C t (fun i=>C[i]?.getD undef) (fun i hi=>by simp [hi])).cell hj |>.trans (by simp [hj])
set_option maxRecDepth 100000 in
theorem digits_any (v:Nat) (w:World) (h2:v≤99):Calls Tryz.prog 95 #[.int .i64 v] w fun e w'=>e=.returned (.string (digS v))∧Below w.heap.size w w':=by
  by_cases h:v<10
  · have hd:decide ((v:Int)<10)=true:=by simp;omega
    have w1:IntKind.i64.wrap (48+(v:Int))=48+(v:Int):=wrap_ok _ (by omega) (by omega)
    have w2:IntKind.u8.wrap (48+(v:Int))=48+(v:Int):=by simp [IntKind.wrap,IntKind.bits,IntKind.signed];omega
    have hrun:(convert 45 9 (.slice (some ⟨w.heap.size,0,none⟩) 1 1)).run Tryz.prog (w.alloc (.cells #[.int .u8 (48+(v:Int))] 5))=.ok (.string (digS v)) (w.alloc (.cells #[.int .u8 (48+(v:Int))] 5)):=by
      have:=run_convert_bytes_back (P:=Tryz.prog) (w.alloc (.cells #[.int .u8 (48+(v:Int))] 5)) 45 9 5 ⟨w.heap.size,0,none⟩ 1 [UInt8.ofNat (48+v)] rfl rfl rfl (by
        intro j hj
        have:j=0:=by simp at hj;omega
        subst this
        have e1:=u8_nat (n:=48+v) (by omega)
        simp only [List.getElem_cons_zero,e1]
        exact (alloc_cellD w #[.int .u8 (48+(v:Int))] _ (j:=0) (by simp)).trans (by simp))
      unfold digS digL
      rw [if_pos h]
      exact this
    go_enter Tryz.func95,Tryz.ntmps95
    go_wp2
    go_ret
    exact ⟨rfl,(Below.refl _ _).alloc (Nat.le_refl _) _⟩
  · have hd:decide ((v:Int)<10)=false:=by simp;omega
    obtain ⟨a,ha⟩:∃a,a=v / 10:=⟨_,rfl⟩
    obtain ⟨c,hc⟩:∃c,c=v % 10:=⟨_,rfl⟩
    have d1:(v:Int).tdiv 10=(a:Int):=by rw [ha,Int.tdiv_eq_ediv_of_nonneg (by omega)];omega
    have d2:(v:Int).tmod 10=(c:Int):=by rw [hc,Int.tmod_eq_emod_of_nonneg (by omega)];omega
    have b1:a≤9:=by omega
    have b2:c≤9:=by omega
    have w1:IntKind.i64.wrap (48+(a:Int))=48+(a:Int):=wrap_ok _ (by omega) (by omega)
    have w2:IntKind.u8.wrap (48+(a:Int))=48+(a:Int):=by simp [IntKind.wrap,IntKind.bits,IntKind.signed];omega
    have w3:IntKind.i64.wrap (48+(c:Int))=48+(c:Int):=wrap_ok _ (by omega) (by omega)
    have w4:IntKind.u8.wrap (48+(c:Int))=48+(c:Int):=by simp [IntKind.wrap,IntKind.bits,IntKind.signed];omega
    have w5:IntKind.i64.wrap (a:Int)=(a:Int):=wrap_ok _ (by omega) (by omega)
    have w6:IntKind.i64.wrap (c:Int)=(c:Int):=wrap_ok _ (by omega) (by omega)
    have hrun:(convert 45 9 (.slice (some ⟨w.heap.size,0,none⟩) 2 2)).run Tryz.prog (w.alloc (.cells #[.int .u8 (48+(a:Int)),.int .u8 (48+(c:Int))] 5))=.ok (.string (digS v)) (w.alloc (.cells #[.int .u8 (48+(a:Int)),.int .u8 (48+(c:Int))] 5)):=by
      have:=run_convert_bytes_back (P:=Tryz.prog) (w.alloc (.cells #[.int .u8 (48+(a:Int)),.int .u8 (48+(c:Int))] 5)) 45 9 5 ⟨w.heap.size,0,none⟩ 2 [UInt8.ofNat (48+a),UInt8.ofNat (48+c)] rfl rfl rfl (by
        intro j hj
        have e1:=u8_nat (n:=48+a) (by omega)
        have e2:=u8_nat (n:=48+c) (by omega)
        rcases (show j=0∨j=1 by simp at hj;omega) with rfl | rfl
        · simp only [List.getElem_cons_zero,e1]
          exact (alloc_cellD w #[.int .u8 (48+(a:Int)),.int .u8 (48+(c:Int))] _ (j:=0) (by simp)).trans (by simp)
        · simp only [List.getElem_cons_succ,List.getElem_cons_zero,e2]
          exact (alloc_cellD w #[.int .u8 (48+(a:Int)),.int .u8 (48+(c:Int))] _ (j:=1) (by simp)).trans (by simp))
      unfold digS digL
      rw [if_neg h,←ha,←hc]
      exact this
    clear ha hc
    go_enter Tryz.func95,Tryz.ntmps95
    go_wp2
    go_ret
    exact ⟨rfl,(Below.refl _ _).alloc (Nat.le_refl _) _⟩
def DgRun (s:ByteArray) (p n:Nat):Prop:=(∀k,k<n→Num.isDg (Num.byt s (p+k))=true)∧Num.isDg (Num.byt s (p+n))=false
theorem ext_list {s:ByteArray} {p n:Nat} (h:p+n≤s.size):(s.extract p (p+n)).toList.length=n∧∀k (hk:k<(s.extract p (p+n)).toList.length),((s.extract p (p+n)).toList[k]).toNat=Num.byt s (p+k):=by
  have hl:(s.extract p (p+n)).toList.length=n:=by
    rw [ByteArray.toList_eq];show (s.extract p (p+n)).size=n;simp [ByteArray.size_extract];omega
  refine ⟨hl,fun k hk=>?_⟩
  rw [hl] at hk
  rw [Num.byt_lt (by omega)]
  have:(s.extract p (p+n)).toList[k]? = some s[p+k]:=by
    rw [ByteArray.toList_eq]
    have h2:s.data.size=s.size:=rfl
    rw [Array.getElem?_toList,ByteArray.data_extract,Array.getElem?_extract,if_pos (by omega),Array.getElem?_eq_getElem (by omega)]
    rfl
  rw [List.getElem?_eq_getElem (by omega)] at this
  simp only [Option.some.injEq] at this
  rw [this]
theorem side_match {s:ByteArray} {p n v:Nat} (h:p+n≤s.size) (hr:DgRun s p n) (h1:1≤v) (h2:v≤64):((s.extract p (p+n)).toList == digL v)=decide (Num.sideV s p=some (v,p+n)):=by
  obtain ⟨hl,hg⟩:=ext_list h
  obtain ⟨hd,hn⟩:=hr
  generalize (s.extract p (p+n)).toList=L at hl hg
  rw [Bool.eq_iff_iff]
  simp only [beq_iff_eq,decide_eq_true_eq]
  constructor
  · intro e
    subst e
    by_cases h10:v<10
    · have hl2:=hl
      simp [digL,h10] at hl2
      have g0:=hg 0 (by omega)
      simp [digL,h10] at g0
      have e0:Num.byt s p=48+v:=by omega
      have d0:=hd 0 (by omega)
      rw [Nat.add_zero] at d0
      subst hl2
      unfold Num.sideV
      rw [if_pos ⟨d0,by omega⟩,if_neg (by simp [hn])]
      simp;omega
    · have hl2:=hl
      simp [digL,h10] at hl2
      have g0:=hg 0 (by omega)
      have g1:=hg 1 (by omega)
      simp [digL,h10] at g0 g1
      have e0:Num.byt s p=48+v / 10:=by omega
      have e1:Num.byt s (p+1)=48+v % 10:=by omega
      have d0:=hd 0 (by omega)
      have d1:=hd 1 (by omega)
      rw [Nat.add_zero] at d0
      subst hl2
      unfold Num.sideV
      rw [if_pos ⟨d0,by omega⟩,if_pos d1,if_pos ⟨by omega,hn⟩]
      simp;omega
  · intro e
    unfold Num.sideV at e
    split at e
    · rename_i c0
      have c1:=c0.1
      simp [Num.isDg] at c1
      split at e
      · rename_i c2
        have c3:=c2
        simp [Num.isDg] at c3
        split at e
        · simp at e
          obtain ⟨e1,e2⟩:=e
          have hn2:n=2:=by omega
          have g0:=hg 0 (by omega)
          have g1:=hg 1 (by omega)
          rw [Nat.add_zero] at g0
          have:L=[L[0]'(by omega),L[1]'(by omega)]:=by
            apply List.ext_getElem
            · simp;omega
            · intro i hi _
              rcases (show i=0∨i=1 by omega) with rfl | rfl <;> simp
          rw [this,digL,if_neg (by omega)]
          congr 1
          · apply UInt8.toNat_inj.1;rw [g0,u8_nat (by omega)];omega
          · congr 1;apply UInt8.toNat_inj.1;rw [g1,u8_nat (by omega)];omega
        · cases e
      · simp at e
        obtain ⟨e1,e2⟩:=e
        have hn2:n=1:=by omega
        have g0:=hg 0 (by omega)
        rw [Nat.add_zero] at g0
        have:L=[L[0]'(by omega)]:=by
          apply List.ext_getElem
          · simp;omega
          · intro i hi _
            rcases (show i=0 by omega) with rfl;simp
        rw [this,digL,if_pos (by omega)]
        congr 1
        apply UInt8.toNat_inj.1;rw [g0,u8_nat (by omega)];omega
    · cases e
theorem side_end {s:ByteArray} {p n v q:Nat} (hr:DgRun s p n) (e:Num.sideV s p=some (v,q)):q=p+n:=by
  obtain ⟨hd,hn⟩:=hr
  have key:∀k,Num.isDg (Num.byt s (p+k))=false→n≤k:=fun k hk=>by
    rcases Nat.lt_or_ge k n with h | h
    · rw [hd k h] at hk;cases hk
    · exact h
  have key2:∀k,Num.isDg (Num.byt s (p+k))=true→k≠n:=fun k hk e=>by rw [e,hn] at hk;cases hk
  unfold Num.sideV at e
  split at e
  · rename_i c0
    have k0:=key2 0 c0.1
    split at e
    · rename_i c2
      have k1:=key2 1 c2
      split at e
      · rename_i c4
        have:=key 2 c4.2
        simp at e;omega
      · cases e
    · rename_i c2
      have:=key 1 (by simpa using c2)
      simp at e;omega
  · cases e
set_option maxRecDepth 100000 in
theorem cuSide_any (cb:Nat) (s:ByteArray) (p:Nat) (b:Bool) (w:World) (hs:s.size≤8192) (hp:p≤s.size) (h:w.rowIs cb 164 2 (cu2 s p b)) :
    Calls Tryz.prog 99 #[.pointer (some ⟨cb,0,none⟩)] w fun e w'=>∃v:Nat,e=.returned (.int .i64 v)∧v≤64∧CuTo w w' cb s b ((Num.sideV s p).map Prod.snd)∧∀x,b=false→Num.sideV s p=some x→v=x.1:=by
  obtain ⟨c0,c1,z0,z1⟩:=cu_cells h
  have hrl:=h.lt
  have hts:=tl_size s p
  have HH:=hide h
  clear h
  go_enter Tryz.func99,Tryz.ntmps99
  go_wp2_with fail
  go_loopw [3] (fun t3 wr=>wr=w∧∃n:Nat,p+n≤s.size∧t3=.int .i64 n∧∀k,k<n→Num.isDg (Num.byt s (p+k))=true) (fun t3 _=>s.size-(intOf t3).toNat)
  case atStart=>exact ⟨rfl,0,by omega,rfl,fun k hk=>by omega⟩
  case round=>
    obtain ⟨hw,n,hn,rfl,hdg⟩:=hrel
    have hw2:=hw.symm
    clear hw
    subst hw2
    have HDg:=hide hdg
    clear hdg
    by_cases hn1:p+n<s.size
    · have g1:(0:Int)≤(n:Int):=by omega
      have g3:n<(tl s p).size:=by omega
      have g2:(n:Int)<((s.size-p:Nat):Int):=by omega
      have hd:decide ((n:Int)<((s.size-p:Nat):Int))=true:=by simp;omega
      have hix:=tl_ix (s:=s) (p:=p) (k:=n) g3
      have w0:IntKind.i64.wrap ((n:Int)+1)=(n:Int)+1:=wrap_ok _ (by omega) (by omega)
      by_cases e1:48≤Num.byt s (p+n)
      · have d1:decide ((48:Int)≤(Num.byt s (p+n):Int))=true:=by simp;omega
        by_cases e2:Num.byt s (p+n)≤57
        · have d2:decide ((Num.byt s (p+n):Int)≤57)=true:=by simp;omega
          go_wp2_with fail
          go_roundw
          case rel=>exact ⟨trivial,n+1,by omega,by push_cast;rfl,fun k hk=>(Nat.lt_or_eq_of_le (Nat.le_of_lt_succ hk)).elim (HDg.out k) (fun h=>by subst h;simp [Num.isDg];omega)⟩
          case measure=>simp [intOf];omega
        · have d2:decide ((Num.byt s (p+n):Int)≤57)=false:=by simp;omega
          have hnd:Num.isDg (Num.byt s (p+n))=false:=by simp [Num.isDg];omega
          have HRun:Hid (DgRun s p n):=⟨HDg.out,hnd⟩
          clear HDg hnd
          go_wp2_with fail
          go_loopw [4] (fun t4 wx=>∃v:Nat,1≤v∧v≤65∧t4=.int .i64 v∧wx.rowIs cb 164 2 (cu2 s p b)∧Touch (fun q=>q=cb) w wx∧(∀u,1≤u→u<v→Num.sideV s p≠some (u,p+n))∧(b=true→v=1)) (fun t4 _=>65-(intOf t4).toNat)
          case atStart=>exact ⟨1,by omega,by omega,rfl,HH.out,Touch.refl _ _,fun u a b=>by omega,fun _=>rfl⟩
          case round=>
            obtain ⟨v,hv1,hv2,rfl,hrow,hT,hno,hb1⟩:=hrel
            clear c0 c1 z0 z1 hrl
            obtain ⟨c0,c1,z0,z1⟩:=cu_cells hrow
            have hrl:=hrow.lt
            have HRow:=hide hrow
            have HT:=hide hT
            have HNo:=hide hno
            clear hrow hT hno
            cases b
            · clear hb1
              by_cases hv:v≤64
              · have hdv:decide ((v:Int)≤64)=true:=by simp;omega
                have w1:IntKind.i64.wrap ((v:Int)+1)=(v:Int)+1:=wrap_ok _ (by omega) (by omega)
                have HC:=hide (fun w'=>digits_any v w' (by omega))
                have HM:=hide (side_match hn HRun.out hv1 hv)
                go_wp2_with fail
                go_at_call 95
                refine (HC.out _).mono ?_
                rintro e w2 ⟨rfl,hB2⟩
                have hrow2:=row_below HRow.out hB2 hrl
                have HT2:Hid (Touch (fun q=>q=cb) w w2):=HT.out.of_below hB2
                have HRow2:=hide hrow2
                clear c0 c1 z0 z1 hB2
                obtain ⟨c0,c1,z0,z1⟩:=cu_cells hrow2
                have hrl2:=hrow2.lt
                clear hrow2
                have hdl:=digS_list v
                have htk:=tl_take hn
                have htd:=tl_drop' hn
                have g1:(0:Int)≤(n:Int):=by omega
                have g2:(n:Int)≤((s.size-p:Nat):Int):=by omega
                have g3:n≤s.size-p:=by omega
                by_cases hsd:Num.sideV s p=some (v,p+n)
                · have hm:((s.extract p (p+n)).toList == digL v)=true:=by rw [HM.out];simp [hsd]
                  have HSd:=hide hsd
                  clear hsd
                  go_wp2_with fail
                  go_ret
                  exact ⟨v,rfl,hv,CuTo.go (p+n) HT2.out HRow2.out hn (by rw [HSd.out];rfl),fun x _ hx=>by rw [HSd.out] at hx;exact congrArg Prod.fst (Option.some.inj hx)⟩
                · have hm:((s.extract p (p+n)).toList == digL v)=false:=by rw [HM.out];simp [hsd]
                  have HSd:=hide hsd
                  clear hsd
                  go_wp2_with fail
                  go_roundw
                  case rel=>exact ⟨v+1,by omega,by omega,by push_cast;rfl,HRow2.out,HT2.out,fun u h1 h2=>(Nat.lt_or_eq_of_le (Nat.le_of_lt_succ h2)).elim (HNo.out u h1) (fun h=>by subst h;exact HSd.out),fun e=>by cases e⟩
                  case measure=>simp [intOf];omega
              · have hdv:decide ((v:Int)≤64)=false:=by simp;omega
                have HSn:Hid (Num.sideV s p=none):=by
                  unfold Hid
                  cases hx:Num.sideV s p with
                  | none=>rfl
                  | some y=>exact absurd (by rw [hx,←side_end HRun.out hx]) (HNo.out y.1 (Num.sideV_le hx).2.2.1 (by have:=(Num.sideV_le hx).2.2.2;omega))
                go_wp2_with fail
                go_ret
                exact ⟨0,rfl,by omega,CuTo.bad HT.out HRow.out hp (.inl (by rw [HSn.out];rfl)),fun x _ hx=>by rw [HSn.out] at hx;cases hx⟩
            · have hv':=hb1 rfl
              subst hv'
              clear hb1
              go_wp2_with fail
              go_ret
              exact ⟨0,rfl,by omega,CuTo.bad HT.out HRow.out hp (.inr rfl),fun x e _=>by cases e⟩
      · have d1:decide ((48:Int)≤(Num.byt s (p+n):Int))=false:=by simp;omega
        have hnd:Num.isDg (Num.byt s (p+n))=false:=by simp [Num.isDg];omega
        have HRun:Hid (DgRun s p n):=⟨HDg.out,hnd⟩
        clear HDg hnd
        go_wp2_with fail
        go_loopw [4] (fun t4 wx=>∃v:Nat,1≤v∧v≤65∧t4=.int .i64 v∧wx.rowIs cb 164 2 (cu2 s p b)∧Touch (fun q=>q=cb) w wx∧(∀u,1≤u→u<v→Num.sideV s p≠some (u,p+n))∧(b=true→v=1)) (fun t4 _=>65-(intOf t4).toNat)
        case atStart=>exact ⟨1,by omega,by omega,rfl,HH.out,Touch.refl _ _,fun u a b=>by omega,fun _=>rfl⟩
        case round=>
          obtain ⟨v,hv1,hv2,rfl,hrow,hT,hno,hb1⟩:=hrel
          clear c0 c1 z0 z1 hrl
          obtain ⟨c0,c1,z0,z1⟩:=cu_cells hrow
          have hrl:=hrow.lt
          have HRow:=hide hrow
          have HT:=hide hT
          have HNo:=hide hno
          clear hrow hT hno
          cases b
          · clear hb1
            by_cases hv:v≤64
            · have hdv:decide ((v:Int)≤64)=true:=by simp;omega
              have w1:IntKind.i64.wrap ((v:Int)+1)=(v:Int)+1:=wrap_ok _ (by omega) (by omega)
              have HC:=hide (fun w'=>digits_any v w' (by omega))
              have HM:=hide (side_match hn HRun.out hv1 hv)
              go_wp2_with fail
              go_at_call 95
              refine (HC.out _).mono ?_
              rintro e w2 ⟨rfl,hB2⟩
              have hrow2:=row_below HRow.out hB2 hrl
              have HT2:Hid (Touch (fun q=>q=cb) w w2):=HT.out.of_below hB2
              have HRow2:=hide hrow2
              clear c0 c1 z0 z1 hB2
              obtain ⟨c0,c1,z0,z1⟩:=cu_cells hrow2
              have hrl2:=hrow2.lt
              clear hrow2
              have hdl:=digS_list v
              have htk:=tl_take hn
              have htd:=tl_drop' hn
              have g1:(0:Int)≤(n:Int):=by omega
              have g2:(n:Int)≤((s.size-p:Nat):Int):=by omega
              have g3:n≤s.size-p:=by omega
              by_cases hsd:Num.sideV s p=some (v,p+n)
              · have hm:((s.extract p (p+n)).toList == digL v)=true:=by rw [HM.out];simp [hsd]
                have HSd:=hide hsd
                clear hsd
                go_wp2_with fail
                go_ret
                exact ⟨v,rfl,hv,CuTo.go (p+n) HT2.out HRow2.out hn (by rw [HSd.out];rfl),fun x _ hx=>by rw [HSd.out] at hx;exact congrArg Prod.fst (Option.some.inj hx)⟩
              · have hm:((s.extract p (p+n)).toList == digL v)=false:=by rw [HM.out];simp [hsd]
                have HSd:=hide hsd
                clear hsd
                go_wp2_with fail
                go_roundw
                case rel=>exact ⟨v+1,by omega,by omega,by push_cast;rfl,HRow2.out,HT2.out,fun u h1 h2=>(Nat.lt_or_eq_of_le (Nat.le_of_lt_succ h2)).elim (HNo.out u h1) (fun h=>by subst h;exact HSd.out),fun e=>by cases e⟩
                case measure=>simp [intOf];omega
            · have hdv:decide ((v:Int)≤64)=false:=by simp;omega
              have HSn:Hid (Num.sideV s p=none):=by
                unfold Hid
                cases hx:Num.sideV s p with
                | none=>rfl
                | some y=>exact absurd (by rw [hx,←side_end HRun.out hx]) (HNo.out y.1 (Num.sideV_le hx).2.2.1 (by have:=(Num.sideV_le hx).2.2.2;omega))
              go_wp2_with fail
              go_ret
              exact ⟨0,rfl,by omega,CuTo.bad HT.out HRow.out hp (.inl (by rw [HSn.out];rfl)),fun x _ hx=>by rw [HSn.out] at hx;cases hx⟩
          · have hv':=hb1 rfl
            subst hv'
            clear hb1
            go_wp2_with fail
            go_ret
            exact ⟨0,rfl,by omega,CuTo.bad HT.out HRow.out hp (.inr rfl),fun x e _=>by cases e⟩
    · have hd:decide ((n:Int)<((s.size-p:Nat):Int))=false:=by simp;omega
      have hnd:Num.isDg (Num.byt s (p+n))=false:=by rw [Num.byt_ge (by omega)];decide
      have HRun:Hid (DgRun s p n):=⟨HDg.out,hnd⟩
      clear HDg hnd
      go_wp2_with fail
      go_loopw [4] (fun t4 wx=>∃v:Nat,1≤v∧v≤65∧t4=.int .i64 v∧wx.rowIs cb 164 2 (cu2 s p b)∧Touch (fun q=>q=cb) w wx∧(∀u,1≤u→u<v→Num.sideV s p≠some (u,p+n))∧(b=true→v=1)) (fun t4 _=>65-(intOf t4).toNat)
      case atStart=>exact ⟨1,by omega,by omega,rfl,HH.out,Touch.refl _ _,fun u a b=>by omega,fun _=>rfl⟩
      case round=>
        obtain ⟨v,hv1,hv2,rfl,hrow,hT,hno,hb1⟩:=hrel
        clear c0 c1 z0 z1 hrl
        obtain ⟨c0,c1,z0,z1⟩:=cu_cells hrow
        have hrl:=hrow.lt
        have HRow:=hide hrow
        have HT:=hide hT
        have HNo:=hide hno
        clear hrow hT hno
        cases b
        · clear hb1
          by_cases hv:v≤64
          · have hdv:decide ((v:Int)≤64)=true:=by simp;omega
            have w1:IntKind.i64.wrap ((v:Int)+1)=(v:Int)+1:=wrap_ok _ (by omega) (by omega)
            have HC:=hide (fun w'=>digits_any v w' (by omega))
            have HM:=hide (side_match hn HRun.out hv1 hv)
            go_wp2_with fail
            go_at_call 95
            refine (HC.out _).mono ?_
            rintro e w2 ⟨rfl,hB2⟩
            have hrow2:=row_below HRow.out hB2 hrl
            have HT2:Hid (Touch (fun q=>q=cb) w w2):=HT.out.of_below hB2
            have HRow2:=hide hrow2
            clear c0 c1 z0 z1 hB2
            obtain ⟨c0,c1,z0,z1⟩:=cu_cells hrow2
            have hrl2:=hrow2.lt
            clear hrow2
            have hdl:=digS_list v
            have htk:=tl_take hn
            have htd:=tl_drop' hn
            have g1:(0:Int)≤(n:Int):=by omega
            have g2:(n:Int)≤((s.size-p:Nat):Int):=by omega
            have g3:n≤s.size-p:=by omega
            by_cases hsd:Num.sideV s p=some (v,p+n)
            · have hm:((s.extract p (p+n)).toList == digL v)=true:=by rw [HM.out];simp [hsd]
              have HSd:=hide hsd
              clear hsd
              go_wp2_with fail
              go_ret
              exact ⟨v,rfl,hv,CuTo.go (p+n) HT2.out HRow2.out hn (by rw [HSd.out];rfl),fun x _ hx=>by rw [HSd.out] at hx;exact congrArg Prod.fst (Option.some.inj hx)⟩
            · have hm:((s.extract p (p+n)).toList == digL v)=false:=by rw [HM.out];simp [hsd]
              have HSd:=hide hsd
              clear hsd
              go_wp2_with fail
              go_roundw
              case rel=>exact ⟨v+1,by omega,by omega,by push_cast;rfl,HRow2.out,HT2.out,fun u h1 h2=>(Nat.lt_or_eq_of_le (Nat.le_of_lt_succ h2)).elim (HNo.out u h1) (fun h=>by subst h;exact HSd.out),fun e=>by cases e⟩
              case measure=>simp [intOf];omega
          · have hdv:decide ((v:Int)≤64)=false:=by simp;omega
            have HSn:Hid (Num.sideV s p=none):=by
              unfold Hid
              cases hx:Num.sideV s p with
              | none=>rfl
              | some y=>exact absurd (by rw [hx,←side_end HRun.out hx]) (HNo.out y.1 (Num.sideV_le hx).2.2.1 (by have:=(Num.sideV_le hx).2.2.2;omega))
            go_wp2_with fail
            go_ret
            exact ⟨0,rfl,by omega,CuTo.bad HT.out HRow.out hp (.inl (by rw [HSn.out];rfl)),fun x _ hx=>by rw [HSn.out] at hx;cases hx⟩
        · have hv':=hb1 rfl
          subst hv'
          clear hb1
          go_wp2_with fail
          go_ret
          exact ⟨0,rfl,by omega,CuTo.bad HT.out HRow.out hp (.inr rfl),fun x e _=>by cases e⟩
theorem ext_mk (l:List UInt8) (i j:Nat):(ByteArray.mk l.toArray).extract i j=⟨((l.drop i).take (j-i)).toArray⟩:=by
  apply ByteArray.ext
  rw [ByteArray.data_extract]
  apply Array.toList_inj.1
  simp
set_option maxRecDepth 100000 in
theorem small_a:∀v,v<10→(([48,49,50,51,52,53,54,55,56,57,97,98,99,100,101,102,103,104,105,106,107,108,109,110,111,112,113,114,115,116,117,118,119,120,121,122]:List UInt8).drop v).take (v+1-v)=digL v:=by decide
set_option maxRecDepth 100000 in
theorem small_b:∀v,v<100→¬v<10→(([48,48,48,49,48,50,48,51,48,52,48,53,48,54,48,55,48,56,48,57,49,48,49,49,49,50,49,51,49,52,49,53,49,54,49,55,49,56,49,57,50,48,50,49,50,50,50,51,50,52,50,53,50,54,50,55,50,56,50,57,51,48,51,49,51,50,51,51,51,52,51,53,51,54,51,55,51,56,51,57,52,48,52,49,52,50,52,51,52,52,52,53,52,54,52,55,52,56,52,57,53,48,53,49,53,50,53,51,53,52,53,53,53,54,53,55,53,56,53,57,54,48,54,49,54,50,54,51,54,52,54,53,54,54,54,55,54,56,54,57,55,48,55,49,55,50,55,51,55,52,55,53,55,54,55,55,55,56,55,57,56,48,56,49,56,50,56,51,56,52,56,53,56,54,56,55,56,56,56,57,57,48,57,49,57,50,57,51,57,52,57,53,57,54,57,55,57,56,57,57]:List UInt8).drop (v*2)).take (v*2+2-v*2)=digL v:=by decide
set_option maxRecDepth 100000 in
theorem small_any (v:Nat) (w:World) (h2:v≤99):Calls Tryz.prog 193 #[.int .i64 v] w fun e w'=>e=.returned (.string (digS v))∧w'=w:=by
  by_cases h:v<10
  · have hd:decide ((v:Int)<10)=true:=by simp;omega
    have w1:IntKind.i64.wrap ((v:Int)+1)=(v:Int)+1:=wrap_ok _ (by omega) (by omega)
    have g1:(0:Int)≤(v:Int):=by omega
    have g2:(v:Int)≤(v:Int)+1:=by omega
    have g3:(v:Int)+1≤36:=by omega
    have g4:((v:Int)+1).toNat=v+1:=by omega
    have g5:v+1≤36:=by omega
    have g6:(0:Int)≤(v:Int)+1:=by omega
    go_enter Tryz.func193,Tryz.ntmps193
    go_wp2
    go_ret
    exact ⟨congrArg (fun t=>Ending.returned (Value.string t)) ((ext_mk _ _ _).trans (congrArg (fun l=>ByteArray.mk l.toArray) (small_a v h))),rfl⟩
  · have hd:decide ((v:Int)<10)=false:=by simp;omega
    have w1:IntKind.i64.wrap ((v:Int)*2)=(v:Int)*2:=wrap_ok _ (by omega) (by omega)
    have w2:IntKind.i64.wrap ((v:Int)*2+2)=(v:Int)*2+2:=wrap_ok _ (by omega) (by omega)
    have g1:(0:Int)≤(v:Int)*2:=by omega
    have g2:(v:Int)*2≤(v:Int)*2+2:=by omega
    have g3:(v:Int)*2+2≤200:=by omega
    have g4:((v:Int)*2+2).toNat=v*2+2:=by omega
    have g5:((v:Int)*2).toNat=v*2:=by omega
    have g6:(0:Int)≤(v:Int)*2+2:=by omega
    go_enter Tryz.func193,Tryz.ntmps193
    go_wp2
    go_ret
    exact ⟨congrArg (fun t=>Ending.returned (Value.string t)) ((ext_mk _ _ _).trans (congrArg (fun l=>ByteArray.mk l.toArray) (small_b v (by omega) h))),rfl⟩
set_option maxRecDepth 100000 in
theorem formatInt_any (v:Nat) (w:World) (h2:v≤99):Calls Tryz.prog 189 #[.int .i64 v,.int .i64 10] w fun e w'=>e=.returned (.string (digS v))∧w'=w:=by
  have g1:decide ((0:Int)≤(v:Int))=true:=by simp
  have g2:decide ((v:Int)<100)=true:=by simp;omega
  have HC:=hide (fun w'=>small_any v w' h2)
  go_enter Tryz.func189,Tryz.ntmps189
  go_wp2_with (go_at_call 193;refine (HC.out _).mono ?_;rintro e w' ⟨rfl,hw'⟩;rw [hw'];clear hw')
  go_ret
  exact ⟨rfl,rfl⟩
theorem itoaI_any (v:Nat) (w:World) (h2:v≤99):Calls Tryz.prog 172 #[.int .i64 v] w fun e w'=>e=.returned (.string (digS v))∧w'=w:=by
  have HC:=hide (fun w'=>formatInt_any v w' h2)
  go_enter Tryz.func172,Tryz.ntmps172
  go_wp2_with (go_at_call 189;refine (HC.out _).mono ?_;rintro e w' ⟨rfl,hw'⟩;rw [hw'];clear hw')
  go_ret
  exact ⟨rfl,rfl⟩
theorem itoa_any (v:Nat) (w:World) (h2:v≤99):Calls Tryz.prog 139 #[.int .i64 v] w fun e w'=>e=.returned (.string (digS v))∧w'=w:=by
  have HC:=hide (fun w'=>itoaI_any v w' h2)
  go_enter Tryz.func139,Tryz.ntmps139
  go_wp2_with (go_at_call 172;refine (HC.out _).mono ?_;rintro e w' ⟨rfl,hw'⟩;rw [hw'];clear hw')
  go_ret
  exact ⟨rfl,rfl⟩
def bytL (n:Nat) (X:Nat→Int):List UInt8:=(List.range n).map fun k=>UInt8.ofNat (X k).toNat
theorem bytL_len (n:Nat) (X:Nat→Int):(bytL n X).length=n:=by simp [bytL]
theorem bytL_at {n:Nat} {X:Nat→Int} (hX:∀k,k<n→0≤X k∧X k≤255) {k:Nat} (hk:k<(bytL n X).length):(((bytL n X)[k]).toNat:Int)=X k:=by
  have hk2:k<n:=by rw [bytL_len] at hk;exact hk
  have:=hX k hk2
  have e:(bytL n X)[k]=UInt8.ofNat (X k).toNat:=by simp [bytL]
  rw [e,u8_nat (by omega)]
  omega
def encT (W H:Int) (n:Nat) (X:Nat→Int):ByteArray:=if Num.picB W H n=true then ByteArray.mk #[80,53,10]++digS W.toNat++ByteArray.mk #[32]++digS H.toNat++ByteArray.mk #[10,50,53,53,10]++ByteArray.mk (bytL n X).toArray else ByteArray.mk #[]
theorem digS_size (v:Nat):(digS v).size≤2:=by
  show (digL v).toArray.size≤2
  unfold digL
  split <;> simp
def encE (W H:Int) (n:Nat):Int:=if Num.picB W H n=true then 0 else 8
set_option maxRecDepth 100000 in
theorem by_string {w:World} {a:Option Addr} {n c:Nat} {X:Nat→Int} (h:ByAt w a n X) (hn:0<n) (hX:∀k,k<n→0≤X k∧X k≤255):(convert 45 9 (.slice a n c)).run Tryz.prog w=.ok (.string ⟨(bytL n X).toArray⟩) w:=by
  rcases h with h | ⟨b,off,rfl,h⟩
  · omega
  · have:=run_convert_bytes_back (P:=Tryz.prog) w 45 9 5 ⟨b,off,none⟩ c (bytL n X) rfl rfl rfl (fun j hj=>by
      have hj2:j<n:=by rw [bytL_len] at hj;exact hj
      rw [bytL_at hX hj,show ((⟨b,off,none⟩:Addr).add j)=⟨b,off+j,none⟩ by unfold Addr.add;split <;> simp_all]
      exact h j hj2)
    rw [bytL_len] at this
    exact this
theorem nl255 (a:ByteArray):a++ByteArray.mk #[10]++ByteArray.mk #[50,53,53]++ByteArray.mk #[10]=a++ByteArray.mk #[10,50,53,53,10]:=by
  rw [ByteArray.append_assoc,ByteArray.append_assoc]
  congr 1
set_option maxRecDepth 100000 in
theorem encode_any (a:Option Addr) (n c:Nat) (W H:Int) (X:Nat→Int) (w:World) (h:ByAt w a n X) (hX:∀k,k<n→0≤X k∧X k≤255) :
    Calls Tryz.prog 93 #[.agg #[.int .i64 W,.int .i64 H,.slice a n c]] w fun e w'=>e=.returned (.tuple #[.string (encT W H n X),.int .i64 (encE W H n)])∧Below w.heap.size w w':=by
  obtain ⟨W1,hW1⟩:∃W1,W1=w.alloc (.cells #[.int .i64 W,.int .i64 H,.slice a n c] 47):=⟨_,rfl⟩
  have hs1:W1.heap.size=w.heap.size+1:=by rw [hW1];simp
  have hb1:Below w.heap.size w W1:=by rw [hW1];exact (Below.refl _ _).alloc (Nat.le_refl _) _
  have hr1:W1.rowIs w.heap.size 47 3 (gz W H (.slice a n c)):=by rw [hW1];exact gz_row _ _ _ _ _
  obtain ⟨gb,hgb⟩:∃gb,gb=w.heap.size:=⟨_,rfl⟩
  rw [←hgb] at hr1
  have HB1:=hide hb1
  have HR1:=hide hr1
  have HBy:=hide (h.below hb1)
  have HP:=hide (isPicture_any a n c W H W1)
  obtain ⟨q0,q1,q2⟩:=gz_cells hr1
  have hgl:=hr1.lt
  obtain ⟨W2,hW2⟩:∃W2,W2=W1.alloc (.cells #[.int .i64 W,.int .i64 H,.slice a n c] 47):=⟨_,rfl⟩
  have hb2:Below W1.heap.size W1 W2:=by rw [hW2];exact (Below.refl _ _).alloc (Nat.le_refl _) _
  rw [←hW2] at HP
  have HB2:=hide hb2
  have hwl:w.heap.size≤W1.heap.size:=by omega
  clear hb1 hr1 h hW2
  cases hp:Num.picB W H n
  · have HT:Hid (encT W H n X=ByteArray.mk #[]∧encE W H n=8):=by unfold Hid encT encE;rw [hp];exact ⟨rfl,rfl⟩
    rw [hp] at HP
    clear hp
    go_enter Tryz.func93,Tryz.ntmps93
    go_wp2_with fail
    rw [←hW1]
    rw [←hgb]
    refine HP.out.mono ?_
    rintro e w2 ⟨rfl,hw2⟩
    rw [hw2]
    clear hw2
    go_wp2_with fail
    go_ret2
    exact ⟨by rw [HT.out.1,HT.out.2];rfl,HB1.out.trans (HB2.out.mono hwl)⟩
  · have hpp:=hp
    simp [Num.picB] at hpp
    obtain ⟨wn,rfl⟩:∃wn:Nat,W=(wn:Int):=⟨W.toNat,by omega⟩
    obtain ⟨hn,rfl⟩:∃hn:Nat,H=(hn:Int):=⟨H.toNat,by omega⟩
    have hn1:0<n:=by
      have h3:=hpp.2.2.2.2
      rw [←Int.natCast_mul] at h3
      have:1*1≤wn*hn:=Nat.mul_le_mul (by omega) (by omega)
      omega
    have HT:Hid (encT wn hn n X=ByteArray.mk #[80,53,10]++digS wn++ByteArray.mk #[32]++digS hn++ByteArray.mk #[10,50,53,53,10]++ByteArray.mk (bytL n X).toArray∧encE wn hn n=0):=by unfold Hid encT encE;rw [hp];exact ⟨rfl,rfl⟩
    rw [hp] at HP
    have HC1:=hide (fun w'=>itoa_any wn w' (by omega))
    have HC2:=hide (fun w'=>itoa_any hn w' (by omega))
    have hn2:n≤4096:=by
      have h3:=hpp.2.2.2.2
      rw [←Int.natCast_mul] at h3
      have:wn*hn≤64*64:=Nat.mul_le_mul (by omega) (by omega)
      omega
    clear hp hpp
    have hr2:=row_below HR1.out HB2.out hgl
    have HR2:=hide hr2
    have HBy2:=hide (HBy.out.below HB2.out)
    go_enter Tryz.func93,Tryz.ntmps93
    go_wp2_with fail
    rw [←hW1]
    rw [←hgb]
    have HGb:=hide hgb
    clear hgb hW1
    refine HP.out.mono ?_
    rintro e w2 ⟨rfl,hw2⟩
    rw [hw2]
    clear hw2 q0 q1 q2
    obtain ⟨q0,q1,q2⟩:=gz_cells hr2
    have hgl2:=hr2.lt
    clear hr2
    go_wp2_with fail
    go_at_call 139
    refine (HC1.out _).mono ?_
    rintro e w3 ⟨rfl,hw3⟩
    rw [hw3]
    clear hw3
    go_wp2_with fail
    go_at_call 139
    refine (HC2.out _).mono ?_
    rintro e w3 ⟨rfl,hw3⟩
    rw [hw3]
    clear hw3
    have hrun:=by_string (c:=c) HBy2.out hn1 hX
    obtain ⟨P,hP⟩:∃P,P=ByteArray.mk (bytL n X).toArray:=⟨_,rfl⟩
    have hPs:P.size=n:=by rw [hP];show (bytL n X).toArray.size=n;simp [bytL]
    rw [←hP] at hrun HT
    have s1:=digS_size wn
    have s2:=digS_size hn
    have k0:¬9223372036854775807<3+(digS wn).size:=by omega
    have k1:¬9223372036854775807<3+(digS wn).size+1:=by omega
    have k2:¬9223372036854775807<3+(digS wn).size+1+(digS hn).size:=by omega
    have k3:¬9223372036854775807<3+(digS wn).size+1+(digS hn).size+1:=by omega
    have k4:¬9223372036854775807<3+(digS wn).size+1+(digS hn).size+1+3:=by omega
    have k5:¬9223372036854775807<3+(digS wn).size+1+(digS hn).size+1+3+1:=by omega
    have k6:¬9223372036854775807<3+(digS wn).size+1+(digS hn).size+1+3+1+n:=by omega
    clear hP s1 s2
    go_wp2_with fail
    go_ret2
    exact ⟨by rw [HT.out.1,HT.out.2,←nl255];rfl,HB1.out.trans (HB2.out.mono hwl)⟩
set_option maxRecDepth 100000 in
theorem refEncode_any (a:Option Addr) (n c:Nat) (W H:Int) (X:Nat→Int) (w:World) (h:ByAt w a n X) (hX:∀k,k<n→0≤X k∧X k≤255) :
    Calls Tryz.prog 50 #[.agg #[.int .i64 W,.int .i64 H,.slice a n c]] w fun e w'=>e=.returned (.tuple #[.string (encT W H n X),.int .i64 (encE W H n)])∧Below w.heap.size w w':=by
  obtain ⟨W1,hW1⟩:∃W1,W1=w.alloc (.cells #[.int .i64 W,.int .i64 H,.slice a n c] 47):=⟨_,rfl⟩
  have hs1:W1.heap.size=w.heap.size+1:=by rw [hW1];simp
  have hb1:Below w.heap.size w W1:=by rw [hW1];exact (Below.refl _ _).alloc (Nat.le_refl _) _
  have hr1:W1.rowIs w.heap.size 47 3 (gz W H (.slice a n c)):=by rw [hW1];exact gz_row _ _ _ _ _
  obtain ⟨gb,hgb⟩:∃gb,gb=w.heap.size:=⟨_,rfl⟩
  rw [←hgb] at hr1
  have HB1:=hide hb1
  have HR1:=hide hr1
  have HBy:=hide (h.below hb1)
  have HP:=hide (isGray_any a n c W H W1)
  obtain ⟨q0,q1,q2⟩:=gz_cells hr1
  have hgl:=hr1.lt
  obtain ⟨W2,hW2⟩:∃W2,W2=W1.alloc (.cells #[.int .i64 W,.int .i64 H,.slice a n c] 47):=⟨_,rfl⟩
  have hb2:Below W1.heap.size W1 W2:=by rw [hW2];exact (Below.refl _ _).alloc (Nat.le_refl _) _
  rw [←hW2] at HP
  have HB2:=hide hb2
  have hwl:w.heap.size≤W1.heap.size:=by omega
  clear hb1 hr1 h hW2
  cases hp:Num.picB W H n
  · have HT:Hid (encT W H n X=ByteArray.mk #[]∧encE W H n=8):=by unfold Hid encT encE;rw [hp];exact ⟨rfl,rfl⟩
    rw [hp] at HP
    clear hp
    go_enter Tryz.func50,Tryz.ntmps50
    go_wp2_with fail
    rw [←hW1]
    rw [←hgb]
    refine HP.out.mono ?_
    rintro e w2 ⟨rfl,hw2⟩
    rw [hw2]
    clear hw2
    go_wp2_with fail
    go_ret2
    exact ⟨by rw [HT.out.1,HT.out.2];rfl,HB1.out.trans (HB2.out.mono hwl)⟩
  · have hpp:=hp
    simp [Num.picB] at hpp
    obtain ⟨wn,rfl⟩:∃wn:Nat,W=(wn:Int):=⟨W.toNat,by omega⟩
    obtain ⟨hn,rfl⟩:∃hn:Nat,H=(hn:Int):=⟨H.toNat,by omega⟩
    have hn1:0<n:=by
      have h3:=hpp.2.2.2.2
      rw [←Int.natCast_mul] at h3
      have:1*1≤wn*hn:=Nat.mul_le_mul (by omega) (by omega)
      omega
    have HT:Hid (encT wn hn n X=ByteArray.mk #[80,53,10]++digS wn++ByteArray.mk #[32]++digS hn++ByteArray.mk #[10,50,53,53,10]++ByteArray.mk (bytL n X).toArray∧encE wn hn n=0):=by unfold Hid encT encE;rw [hp];exact ⟨rfl,rfl⟩
    rw [hp] at HP
    have HC1:=hide (fun w'=>digits_any wn w' (by omega))
    have HC2:=hide (fun w'=>digits_any hn w' (by omega))
    have hn2:n≤4096:=by
      have h3:=hpp.2.2.2.2
      rw [←Int.natCast_mul] at h3
      have:wn*hn≤64*64:=Nat.mul_le_mul (by omega) (by omega)
      omega
    clear hp hpp
    have hr2:=row_below HR1.out HB2.out hgl
    have HR2:=hide hr2
    have HBy2:=hide (HBy.out.below HB2.out)
    go_enter Tryz.func50,Tryz.ntmps50
    go_wp2_with fail
    rw [←hW1]
    rw [←hgb]
    have HGb:=hide hgb
    clear hgb hW1
    refine HP.out.mono ?_
    rintro e w2 ⟨rfl,hw2⟩
    rw [hw2]
    clear hw2 q0 q1 q2
    obtain ⟨q0,q1,q2⟩:=gz_cells hr2
    have hgl2:=hr2.lt
    clear hr2
    go_wp2_with fail
    go_at_call 95
    refine (HC1.out _).mono ?_
    rintro e w3 ⟨rfl,hb3⟩
    have hr3:=row_below HR2.out hb3 hgl2
    have HBy3:=hide (HBy2.out.below hb3)
    have HB3:=hide (HB2.out.trans (hb3.mono HB2.out.size))
    clear q0 q1 q2 hb3
    obtain ⟨q0,q1,q2⟩:=gz_cells hr3
    have hgl3:=hr3.lt
    have HR3:=hide hr3
    clear hr3
    go_wp2_with fail
    go_at_call 95
    refine (HC2.out _).mono ?_
    rintro e w4 ⟨rfl,hb4⟩
    have hr4:=row_below HR3.out hb4 hgl3
    have HBy4:=hide (HBy3.out.below hb4)
    have HB4:=hide (HB3.out.trans (hb4.mono HB3.out.size))
    clear q0 q1 q2 hb4
    obtain ⟨q0,q1,q2⟩:=gz_cells hr4
    have hgl4:=hr4.lt
    clear hr4
    have hrun:=by_string (c:=c) HBy4.out hn1 hX
    obtain ⟨P,hP⟩:∃P,P=ByteArray.mk (bytL n X).toArray:=⟨_,rfl⟩
    have hPs:P.size=n:=by rw [hP];show (bytL n X).toArray.size=n;simp [bytL]
    rw [←hP] at hrun HT
    have s1:=digS_size wn
    have s2:=digS_size hn
    have k0:¬9223372036854775807<3+(digS wn).size:=by omega
    have k1:¬9223372036854775807<3+(digS wn).size+1:=by omega
    have k2:¬9223372036854775807<3+(digS wn).size+1+(digS hn).size:=by omega
    have k3:¬9223372036854775807<3+(digS wn).size+1+(digS hn).size+5:=by omega
    have k4:¬9223372036854775807<3+(digS wn).size+1+(digS hn).size+5+n:=by omega
    clear hP s1 s2
    go_wp2_with fail
    go_ret2
    exact ⟨by rw [HT.out.1,HT.out.2];rfl,HB1.out.trans (HB4.out.mono hwl)⟩
set_option maxRecDepth 100000 in
theorem glyphEncode_any (a:Option Addr) (n c:Nat) (W H:Int) (X:Nat→Int) (w:World) (h:ByAt w a n X) (hX:∀k,k<n→0≤X k∧X k≤255) :
    Calls Tryz.prog 49 #[.agg #[.int .i64 W,.int .i64 H,.slice a n c]] w fun e w'=>e=.returned (.tuple #[.string (encT W H n X),.int .i64 (encE W H n)])∧Below w.heap.size w w':=by
  obtain ⟨W1,hW1⟩:∃W1,W1=w.alloc (.cells #[.int .i64 W,.int .i64 H,.slice a n c] 47):=⟨_,rfl⟩
  have hb1:Below w.heap.size w W1:=by rw [hW1];exact (Below.refl _ _).alloc (Nat.le_refl _) _
  have hwl:w.heap.size≤W1.heap.size:=hb1.size
  have HB1:=hide hb1
  have HC:=hide (encode_any a n c W H X W1 (h.below hb1) hX)
  obtain ⟨T,hT⟩:∃T,T=encT W H n X:=⟨_,rfl⟩
  obtain ⟨E,hE⟩:∃E,E=encE W H n:=⟨_,rfl⟩
  rw [←hT,←hE] at HC ⊢
  clear hb1 h hT hE
  go_enter Tryz.func49,Tryz.ntmps49
  go_wp2_with fail
  rw [←hW1]
  refine HC.out.mono ?_
  rintro e w2 ⟨rfl,hb2⟩
  have HB2:=hide hb2
  clear hb2
  go_wp2_with fail
  go_ret2
  exact ⟨rfl,HB1.out.trans (HB2.out.mono hwl)⟩
structure RcS {α:Type} (W wk:World) (rb:Nat) (s:ByteArray) (b:Bool) (p:Nat) (x:α) (S:Option (α×Nat)):Prop where
  row:wk.rowIs rb 164 2 (cu2 s p b)
  le:p≤s.size
  touch:Touch (fun q=>q=rb) W wk
  st:(b=false∧S=some (x,p))∨(b=true∧S=none)
theorem RcS.step {α:Type} {W wk w':World} {rb:Nat} {s:ByteArray} {b:Bool} {p:Nat} {x:α} {S:Option (α×Nat)} {f:Nat→Option Nat} (h:RcS W wk rb s b p x S) (t:CuTo wk w' rb s b (f p)):∃b' p',RcS W w' rb s b' p' x (stepV S f):=by
  obtain ⟨hT,p',hrow,hp',hq⟩:=t
  refine ⟨_,p',hrow,hp',h.touch.trans hT,?_⟩
  rcases h.st with ⟨e1,e2⟩ | ⟨e1,e2⟩
  · rw [e2]
    cases hf:f p with
    | none=>right;simp [stepV,hf]
    | some q=>left;rw [hq q e1 hf];simp [stepV,hf,e1]
  · right;rw [e1,e2];simp [stepV]
theorem RcS.side {α:Type} {W wk w':World} {rb v:Nat} {s:ByteArray} {b:Bool} {p:Nat} {x:α} {S:Option (α×Nat)} (h:RcS W wk rb s b p x S) (t:CuTo wk w' rb s b ((Num.sideV s p).map Prod.snd)) (hv:∀y,b=false→Num.sideV s p=some y→v=y.1):∃b' p',RcS W w' rb s b' p' (x,v) (sideS s S):=by
  obtain ⟨hT,p',hrow,hp',hq⟩:=t
  refine ⟨_,p',hrow,hp',h.touch.trans hT,?_⟩
  rcases h.st with ⟨e1,e2⟩ | ⟨e1,e2⟩
  · rw [e2]
    cases hf:Num.sideV s p with
    | none=>right;simp [sideS,hf]
    | some y=>left;rw [hq y.2 e1 (by rw [hf];rfl),hv y e1 hf];simp [sideS,hf,e1]
  · right;rw [e1,e2];simp [sideS]
theorem cu0_row (s:ByteArray) (w:World) (t:TypeId):(w.alloc (.cells #[.string s,.bool false] t)).rowIs w.heap.size t 2 (cu2 s 0 false):=by
  refine World.rowIs_alloc w #[.string s,.bool false] t (cu2 s 0 false) (fun i hi=>?_)
  have hi:i<2:=hi
  rcases (show i=0∨i=1 by omega) with rfl | rfl
  · simp [cu2,tl_zero]
  · rfl
theorem byAt_touchO {w w':World} {ao:Option Addr} {n cap:Nat} {S:Nat→Prop} {X:Nat→Int} (h:ByAt w ao n X) (hT:Touch S w w') (hb:∀b,(Value.slice ao n cap).ownBlock=some b→¬S b):ByAt w' ao n X:=by
  rcases h with h | ⟨b',off,e,h⟩
  · exact .inl h
  · refine .inr ⟨b',off,e,fun k hk=>?_⟩
    rw [←h k hk]
    exact cellD_of_heap (p:=⟨b',off+k,none⟩) (hT.block _ (World.block_lt_of_cell? w _ (h k hk)) (hb b' (by rw [e];rfl)))
set_option maxRecDepth 100000 in
theorem refDecode_any (s:ByteArray) (w:World) (hs2:(s.size:Int)≤9000000000000000000):Calls Tryz.prog 53 #[.string s] w fun e w'=>DecO w w' s e:=by
  obtain ⟨gb,hgb⟩:∃gb,gb=w.heap.size:=⟨_,rfl⟩
  obtain ⟨W0,hW0⟩:∃W0,W0=w.alloc (.cells #[.int .i64 0,.int .i64 0,.slice none 0 0] 47):=⟨_,rfl⟩
  have hg0:W0.rowIs gb 47 3 (grD 0 0 (.slice none 0 0)):=by rw [hW0,hgb];exact grD_row _ _ _ _ _
  have hB0:Below w.heap.size w W0:=by rw [hW0];exact (Below.refl _ _).alloc (Nat.le_refl _) _
  have hs0:W0.heap.size=gb+1:=by rw [hW0,hgb];simp
  have none_fin:∀wx:World,Num.decV s=none→Below w.heap.size w wx→DecO w wx s (.returned (.tuple #[.agg #[.int .i64 0,.int .i64 0,.slice none 0 0],.int .i64 10])):=fun wx hn hb=>by
    obtain ⟨e1,e2⟩:=decT_none hn
    refine ⟨none,0,?_,hb,?_,?_,?_⟩
    · rw [e1,e2];simp
    · rw [e1];simp;exact ByRow.nil
    · rw [e1];simp;exact .inl rfl
    · intro q hq;simp [Value.ownBlock] at hq
  by_cases hs:s.size≤8192
  · have hd:decide ((8192:Int)<(s.size:Int))=false:=by simp;omega
    obtain ⟨W1,hW1⟩:∃W1,W1=W0.alloc (.cells #[.string s,.bool false] 164):=⟨_,rfl⟩
    obtain ⟨rb,hrb⟩:∃rb,rb=gb+1:=⟨_,rfl⟩
    have hr1:W1.rowIs rb 164 2 (cu2 s 0 false):=by rw [hW1,hrb,←hs0];exact cu0_row _ _ _
    have hg1:W1.rowIs gb 47 3 (grD 0 0 (.slice none 0 0)):=by rw [hW1];exact hg0.alloc _
    have hB1:Below w.heap.size w W1:=by rw [hW1];exact hB0.alloc (by omega) _
    have R0:RcS W1 W1 rb s false 0 () (some ((),0)):=⟨hr1,by omega,Touch.refl _ _,.inl ⟨rfl,rfl⟩⟩
    have HNone:=hide none_fin
    have HG1:=hide hg1
    have HB1:=hide hB1
    have HD:=hide (decV_eq hs)
    have hgr:gb≠rb:=by omega
    have hwg:w.heap.size≤gb:=by omega
    have hs1:W1.heap.size=rb+1:=by rw [hW1];simp;omega
    have HR0:=hide R0
    clear none_fin hg1 hB1 hg0 hB0 R0 hr1
    go_enter Tryz.func53,Tryz.ntmps53
    go_wp2_with fail
    rw [←hW0,←hW1]
    rw [←hgb]
    rw [←hrb]
    have HGb:=hide hgb
    have HRb:=hide hrb
    clear hgb hrb hW0 hW1 hs0
    refine (cuWord_any rb s ⟨#[80,53]⟩ 0 false W1 hs (by decide) (by omega) HR0.out.row).mono ?_
    rintro e w1 ⟨rfl,t1⟩
    rw [show (ByteArray.mk #[80,53]).toList=[80,53] from ByteArray.toList_mk _] at t1
    obtain ⟨b1,p1,R1⟩:=HR0.out.step t1
    have HR1:=hide R1
    clear t1 R1 HR0
    go_wp2_with fail
    refine (cuGap_any rb s p1 b1 w1 hs HR1.out.le HR1.out.row).mono ?_
    rintro e w2 ⟨rfl,t2⟩
    obtain ⟨b2,p2,R2⟩:=HR1.out.step t2
    have HR2:=hide R2
    clear t2 R2 HR1
    go_wp2_with fail
    refine (cuSide_any rb s p2 b2 w2 hs HR2.out.le HR2.out.row).mono ?_
    rintro e w3 ⟨v1,rfl,hv1,t3,hx3⟩
    obtain ⟨b3,p3,R3⟩:=HR2.out.side t3 hx3
    have HR3:=hide R3
    clear t3 R3 HR2 hx3
    go_wp2_with fail
    refine (cuGap_any rb s p3 b3 w3 hs HR3.out.le HR3.out.row).mono ?_
    rintro e w4 ⟨rfl,t4⟩
    obtain ⟨b4,p4,R4⟩:=HR3.out.step t4
    have HR4:=hide R4
    clear t4 R4 HR3
    go_wp2_with fail
    refine (cuSide_any rb s p4 b4 w4 hs HR4.out.le HR4.out.row).mono ?_
    rintro e w5 ⟨v2,rfl,hv2,t5,hx5⟩
    obtain ⟨b5,p5,R5⟩:=HR4.out.side t5 hx5
    have HR5:=hide R5
    clear t5 R5 HR4 hx5
    go_wp2_with fail
    refine (cuGap_any rb s p5 b5 w5 hs HR5.out.le HR5.out.row).mono ?_
    rintro e w6 ⟨rfl,t6⟩
    obtain ⟨b6,p6,R6⟩:=HR5.out.step t6
    have HR6:=hide R6
    clear t6 R6 HR5
    go_wp2_with fail
    refine (cuWord_any rb s ⟨#[50,53,53]⟩ p6 b6 w6 hs (by decide) HR6.out.le HR6.out.row).mono ?_
    rintro e w7 ⟨rfl,t7⟩
    rw [show (ByteArray.mk #[50,53,53]).toList=[50,53,53] from ByteArray.toList_mk _] at t7
    obtain ⟨b7,p7,R7⟩:=HR6.out.step t7
    have HR7:=hide R7
    clear t7 R7 HR6
    go_wp2_with fail
    refine (cuBlank_any rb s p7 b7 w7 hs HR7.out.le HR7.out.row).mono ?_
    rintro e w8 ⟨rfl,t8⟩
    obtain ⟨b8,p8,R8⟩:=HR7.out.step t8
    have HR8:=hide R8
    clear t8 R8 HR7
    obtain ⟨c0,c1,z0,z1⟩:=cu_cells HR8.out.row
    have hts:=tl_size s p8
    have hp8:=HR8.out.le
    have hrl:=HR8.out.row.lt
    have g8:w8.rowIs gb 47 3 (grD 0 0 (.slice none 0 0)):=HG1.out.of_block (HR8.out.touch.block gb (by have:=HRb.out;omega) hgr)
    have hB8:Below w.heap.size w w8:=⟨HR8.out.touch.os.trans HB1.out.os,HR8.out.touch.tape.trans HB1.out.tape,HR8.out.touch.output.trans HB1.out.output,by have:=HB1.out.size;have:=HR8.out.touch.size;omega,fun q hq=>by rw [HR8.out.touch.block q (by have:=HRb.out;omega) (by have:=HRb.out;omega)];exact HB1.out.block q hq⟩
    have HG8:=hide g8
    have HB8:=hide hB8
    have hgl:=g8.lt
    obtain ⟨y0,y1,y2⟩:=grD_cells g8
    have x0:=g8.frozen 0
    have x1:=g8.frozen 1
    have x2:=g8.frozen 2
    have hmul:v1*v2≤4096:=Nat.le_trans (Nat.mul_le_mul hv1 hv2) (by omega)
    have w2_:IntKind.i64.wrap ((v1:Int)*(v2:Int))=(v1:Int)*(v2:Int):=wrap_ok _ (by rw [←Int.natCast_mul];omega) (by rw [←Int.natCast_mul];omega)
    clear g8 hB8 hmul
    cases b8
    · by_cases hq:s.size-p8=v1*v2
      · have hne:(((s.size-p8:Nat):Int) != (v1:Int)*(v2:Int))=false:=by simp;rw [←Int.natCast_mul];omega
        have HQ:=hide hq
        clear hq
        have HV:Hid (Num.decV s=some (v1,v2,p8)):=by
          unfold Hid;rw [HD.out]
          rcases HR8.out.st with ⟨_,e2⟩ | ⟨e1,_⟩
          · rw [show decS s=some ((((),v1),v2),p8) from e2];simp [HQ.out]
          · cases e1
        obtain ⟨e1,e2⟩:=decT_some HV.out
        have hsz:(s.extract p8 s.size).size=s.size-p8:=by simp [ByteArray.size_extract]
        have hrun:=run_bytes_of_string (P:=Tryz.prog) w8 9 45 5 (s.extract p8 s.size) rfl rfl rfl
        rw [hsz] at hrun
        rw [show s.extract p8 s.size=tl s p8 from rfl] at hrun
        have hc1:=grownCap_ge w8 (s.size-p8) 0 5
        have hc2:=grownCap_le_maxLen w8 (s.size-p8) 0 5
        obtain ⟨cap,hcap⟩:∃c,c=grownCap w8 (s.size-p8) 0 5:=⟨_,rfl⟩
        rw [←hcap] at hrun hc1 hc2
        have hc3:(cap:Int)≤9223372036854775807:=by have:=hc2 (by simp [maxLen];omega);simp [maxLen] at this;omega
        have hl:=bytes_laid (w:=w8) hp8 cap hc1 hc3
        obtain ⟨W9,hW9⟩:∃W9,W9=w8.drew.alloc (.cells (bytesRow (s.extract p8 s.size) cap) 5 ((bytesRow (s.extract p8 s.size) cap).size,(bytesRow (s.extract p8 s.size) cap).size+1)):=⟨_,rfl⟩
        obtain ⟨nb,hnb⟩:∃nb,nb=w8.heap.size:=⟨_,rfl⟩
        simp only at hl
        rw [←hW9,←hnb] at hl
        rw [show s.extract p8 s.size=tl s p8 from rfl] at hW9
        rw [←hW9,←hnb] at hrun
        have HB9:Hid (Below w8.heap.size w8 W9):=by unfold Hid;rw [hW9];exact ((Below.refl _ _).drew).alloc (Nat.le_refl _) _
        have g9:W9.rowIs gb 47 3 (grD 0 0 (.slice none 0 0)):=HG8.out.of_block (HB9.out.block gb hgl)
        obtain ⟨q0,q1,q2⟩:=grD_cells g9
        have u0:=g9.frozen 0
        have u1:=g9.frozen 1
        have u2:=g9.frozen 2
        have hgl9:=g9.lt
        have hgn:gb≠nb:=by omega
        have HL:=hide hl
        have HE1:=hide e1
        have HE2:=hide e2
        have HNb:=hide hnb
        have HG9:=hide g9
        have HC:=hide (And.intro hc1 hc3)
        clear hl e1 e2 hnb g9 hcap hW9 hc1 hc2 hc3 hsz
        go_wp2_with fail
        obtain ⟨WE,hWE⟩:∃WE,WE=((W9.setCell ⟨gb,0,none⟩ (.int .i64 v1)).setCell ⟨gb,1,none⟩ (.int .i64 v2)).setCell ⟨gb,2,none⟩ (.slice (some ⟨nb,0,none⟩) (s.size-p8) cap):=⟨_,rfl⟩
        rw [←hWE]
        have gE:WE.rowIs gb 47 3 (grD v1 v2 (.slice (some ⟨nb,0,none⟩) (s.size-p8) cap)):=by rw [hWE];exact grD_set HG9.out _ _ _
        obtain ⟨k0,k1,k2⟩:=grD_cells gE
        have hBE:Below gb W9 WE:=by rw [hWE];exact (((Below.refl gb W9).setCell (p:=⟨gb,0,none⟩) (Nat.le_refl _) _).setCell (p:=⟨gb,1,none⟩) (Nat.le_refl _) _).setCell (p:=⟨gb,2,none⟩) (Nat.le_refl _) _
        have hTE:Touch (fun q=>q=gb) W9 WE:=by rw [hWE];exact (((Touch.refl (fun q=>q=gb) W9).setCell (p:=⟨gb,0,none⟩) (.inl rfl) _).setCell (p:=⟨gb,1,none⟩) (.inl rfl) _).setCell (p:=⟨gb,2,none⟩) (.inl rfl) _
        refine bodyPost_ret (v:=.tuple #[.agg #[.int .i64 v1,.int .i64 v2,.slice (some ⟨nb,0,none⟩) (s.size-p8) cap],.int .i64 0]) (by simp [results,Tryz.results53,go_sem,k0,k1,k2]) rfl ?_
        refine ⟨some ⟨nb,0,none⟩,cap,?_,?_,?_,?_,?_⟩
        · rw [HE1.out,HE2.out]
        · exact (HB8.out.trans (HB9.out.mono (by have:=HB8.out.size;omega))).trans (hBE.mono hwg)
        · rw [HE1.out];exact HL.out.1.of_blocks fun b hb=>hTE.block b (HL.out.1.lt hb).1 (by simp [Value.ownBlock] at hb;omega)
        · rw [HE1.out];exact byAt_touch HL.out.2 hTE (fun e=>hgn e.symm)
        · rw [HE1.out];intro q hq;simp [Value.ownBlock] at hq;have:=HNb.out;have:=HB8.out.size;omega
      · have hne:(((s.size-p8:Nat):Int) != (v1:Int)*(v2:Int))=true:=by simp;intro e;rw [←Int.natCast_mul] at e;omega
        have HV:Hid (Num.decV s=none):=by
          unfold Hid;rw [HD.out]
          rcases HR8.out.st with ⟨_,e2⟩ | ⟨e1,_⟩
          · rw [show decS s=some ((((),v1),v2),p8) from e2];simp [hq]
          · cases e1
        go_wp2_with fail
        obtain ⟨WE,hWE⟩:∃WE,WE=((w8.setCell ⟨gb,0,none⟩ (.int .i64 0)).setCell ⟨gb,1,none⟩ (.int .i64 0)).setCell ⟨gb,2,none⟩ (.slice none 0 0):=⟨_,rfl⟩
        rw [←hWE]
        have gE:WE.rowIs gb 47 3 (grD 0 0 (.slice none 0 0)):=by rw [hWE];exact grD_set HG8.out _ _ _
        obtain ⟨k0,k1,k2⟩:=grD_cells gE
        exact bodyPost_ret (v:=.tuple #[.agg #[.int .i64 0,.int .i64 0,.slice none 0 0],.int .i64 10]) (by simp [results,Tryz.results53,go_sem,k0,k1,k2]) rfl (HNone.out WE HV.out (by rw [hWE];exact ((HB8.out.setCell hwg _).setCell hwg _).setCell hwg _))
    · have HV:Hid (Num.decV s=none):=by
        unfold Hid;rw [HD.out]
        rcases HR8.out.st with ⟨e1,_⟩ | ⟨_,e2⟩
        · cases e1
        · rw [show decS s=none from e2];rfl
      go_wp2_with fail
      obtain ⟨WE,hWE⟩:∃WE,WE=((w8.setCell ⟨gb,0,none⟩ (.int .i64 0)).setCell ⟨gb,1,none⟩ (.int .i64 0)).setCell ⟨gb,2,none⟩ (.slice none 0 0):=⟨_,rfl⟩
      rw [←hWE]
      have gE:WE.rowIs gb 47 3 (grD 0 0 (.slice none 0 0)):=by rw [hWE];exact grD_set HG8.out _ _ _
      obtain ⟨k0,k1,k2⟩:=grD_cells gE
      exact bodyPost_ret (v:=.tuple #[.agg #[.int .i64 0,.int .i64 0,.slice none 0 0],.int .i64 10]) (by simp [results,Tryz.results53,go_sem,k0,k1,k2]) rfl (HNone.out WE HV.out (by rw [hWE];exact ((HB8.out.setCell hwg _).setCell hwg _).setCell hwg _))
  · have hd:decide ((8192:Int)<(s.size:Int))=true:=by simp;omega
    have HV:Hid (Num.decV s=none):=by unfold Hid Num.decV;rw [if_pos (by omega)]
    have HNone:=hide none_fin
    have HG0:=hide hg0
    have HB0:=hide hB0
    have hwg:w.heap.size≤gb:=by omega
    clear none_fin hg0 hB0
    go_enter Tryz.func53,Tryz.ntmps53
    go_wp2_with fail
    rw [←hW0]
    rw [←hgb]
    obtain ⟨y0,y1,y2⟩:=grD_cells HG0.out
    exact bodyPost_ret (v:=.tuple #[.agg #[.int .i64 0,.int .i64 0,.slice none 0 0],.int .i64 10]) (by simp [results,Tryz.results53,go_sem,y0,y1,y2]) rfl (HNone.out W0 HV.out HB0.out)
set_option maxRecDepth 100000 in
theorem glyphDecode_any (s:ByteArray) (w:World) (hs2:(s.size:Int)≤9000000000000000000):Calls Tryz.prog 52 #[.string s] w fun e w'=>DecO w w' s e:=by
  obtain ⟨gb,hgb⟩:∃gb,gb=w.heap.size:=⟨_,rfl⟩
  obtain ⟨W0,hW0⟩:∃W0,W0=w.alloc (.cells #[.int .i64 0,.int .i64 0,.slice none 0 0] 47):=⟨_,rfl⟩
  have hg0:W0.rowIs gb 47 3 (grD 0 0 (.slice none 0 0)):=by rw [hW0,hgb];exact grD_row _ _ _ _ _
  have hB0:Below w.heap.size w W0:=by rw [hW0];exact (Below.refl _ _).alloc (Nat.le_refl _) _
  have hs0:W0.heap.size=gb+1:=by rw [hW0,hgb];simp
  have HC:=hide (decode_any s W0 hs2)
  have HG0:=hide hg0
  have HB0:=hide hB0
  have hwg:w.heap.size≤gb:=by omega
  clear hg0 hB0
  go_enter Tryz.func52,Tryz.ntmps52
  go_wp2_with fail
  rw [←hW0]
  rw [←hgb]
  have HGb:=hide hgb
  have HS0:=hide hs0
  clear hgb hW0 hs0
  refine HC.out.mono ?_
  rintro e w1 ⟨ao,cap,rfl,hB1,hr1,ha1,ho1⟩
  have hgr:gb<W0.heap.size:=by have:=HS0.out;omega
  have g1:=row_below HG0.out hB1 hgr
  have hgl:=g1.lt
  obtain ⟨y0,y1,y2⟩:=grD_cells g1
  have x0:=g1.frozen 0
  have x1:=g1.frozen 1
  have x2:=g1.frozen 2
  have HG1:=hide g1
  have HB1:=hide hB1
  have HR1:=hide hr1
  have HA1:=hide ha1
  have HO1:=hide ho1
  clear g1 hB1 hr1 ha1 ho1
  obtain ⟨a1,ha1⟩:∃a,a=(decT s).1:=⟨_,rfl⟩
  obtain ⟨a2,ha2⟩:∃a,a=(decT s).2.1:=⟨_,rfl⟩
  obtain ⟨n3,hn3⟩:∃a,a=s.size-(decT s).2.2:=⟨_,rfl⟩
  obtain ⟨e4,he4⟩:∃a,a=decE s:=⟨_,rfl⟩
  rw [←ha1,←ha2,←hn3,←he4]
  rw [←hn3] at HR1 HA1 HO1
  have HE:=hide (And.intro ha1 (And.intro ha2 (And.intro hn3 he4)))
  clear ha1 ha2 hn3 he4
  go_wp2_with fail
  obtain ⟨WE,hWE⟩:∃WE,WE=((w1.setCell ⟨gb,0,none⟩ (.int .i64 a1)).setCell ⟨gb,1,none⟩ (.int .i64 a2)).setCell ⟨gb,2,none⟩ (.slice ao n3 cap):=⟨_,rfl⟩
  rw [←hWE]
  have gE:WE.rowIs gb 47 3 (grD a1 a2 (.slice ao n3 cap)):=by rw [hWE];exact grD_set HG1.out _ _ _
  obtain ⟨k0,k1,k2⟩:=grD_cells gE
  have hBE:Below gb w1 WE:=by rw [hWE];exact (((Below.refl gb w1).setCell (p:=⟨gb,0,none⟩) (Nat.le_refl _) _).setCell (p:=⟨gb,1,none⟩) (Nat.le_refl _) _).setCell (p:=⟨gb,2,none⟩) (Nat.le_refl _) _
  have hTE:Touch (fun q=>q=gb) w1 WE:=by rw [hWE];exact (((Touch.refl (fun q=>q=gb) w1).setCell (p:=⟨gb,0,none⟩) (.inl rfl) _).setCell (p:=⟨gb,1,none⟩) (.inl rfl) _).setCell (p:=⟨gb,2,none⟩) (.inl rfl) _
  refine bodyPost_ret (v:=.tuple #[.agg #[.int .i64 a1,.int .i64 a2,.slice ao n3 cap],.int .i64 e4]) (by simp [results,Tryz.results52,go_sem,k0,k1,k2]) rfl ?_
  obtain ⟨ha1,ha2,hn3,he4⟩:=HE.out
  refine ⟨ao,cap,?_,?_,?_,?_,?_⟩
  · rw [ha1,ha2,hn3,he4]
  · exact (HB0.out.trans (HB1.out.mono (by have:=HB0.out.size;omega))).trans (hBE.mono hwg)
  · rw [←hn3];exact HR1.out.of_blocks fun b hb=>hTE.block b (HR1.out.lt hb).1 (by have:=HO1.out b hb;omega)
  · rw [←hn3];exact byAt_touchO HA1.out hTE (fun b hb=>by have:=HO1.out b hb;omega)
  · rw [←hn3];intro q hq;have:=HO1.out q hq;have:=HB0.out.size;omega
set_option maxRecDepth 100000 in
theorem encodes_any (a:Option Addr) (n c h:Nat) (UW UH:Int) (U:Nat→Int) (s:HS) (w0 w:World) (hn:n≤140737488355328)
    (hU:ByAt w0 a n U) (bU:∀k,k<n→0≤U k∧U k≤255) (hb0:Below w0.heap.size w0 w) (hh:w0.heap.size≤h) (H:HeldInv w h s) (hs:s.n+24≤1099511627776) :
    Calls Tryz.prog 14 #[.pointer (some ⟨h,0,none⟩),.agg #[.int .i64 UW,.int .i64 UH,.slice a n c]] w fun e w'=>e=.returned (.bool true)∧Below w0.heap.size w w'∧Touch (Used h s) w w'∧∃s',HeldInv w' h s'∧s'.n≤s.n+24∧s'.cs=s.cs∧s'.rs=s.rs∧NewUsed w.heap.size h s s':=by
  have hsz0:=hb0.size
  have hhw:=H.wd.lt
  obtain ⟨W2,hW2⟩:∃W2,W2=w.alloc (.cells #[.int .i64 UW,.int .i64 UH,.slice a n c] 47):=⟨_,rfl⟩
  have hs2:W2.heap.size=w.heap.size+1:=by rw [hW2];simp
  have hbw2:Below w.heap.size w W2:=by rw [hW2];(repeat any_goals first | exact .refl _ _ | assumption | refine .drew ?_ | refine below_drewN ?_ _ | refine .setCell ?_ ?_ _ | refine .alloc ?_ ?_ _ | omega | (simp <;> omega))
  have hru:W2.rowIs w.heap.size 47 3 (gz UW UH (.slice a n c)):=by rw [hW2];exact gz_row _ _ _ _ _
  obtain ⟨ub,hub⟩:∃ub,ub=w.heap.size:=⟨_,rfl⟩
  rw [←hub] at hru
  have HB02:=hide (hb0.trans (hbw2.mono hsz0))
  have HBw2:=hide hbw2
  have HH:=hide H
  have HU:=hide hU
  have HbU:=hide bU
  have HUB:=hide H.underB
  have HRu:=hide hru
  have hub2:ub<W2.heap.size:=by omega
  have HW2:=hide hW2
  obtain ⟨q0,q1,q2⟩:=gz_cells hru
  clear hb0 hbw2 hU bU H hru hW2
  go_enter Tryz.func14,Tryz.ntmps14
  go_wp2_with fail
  rw [←HW2.out]
  try rw [←hub]
  refine (lendGray_any a n c UW UH U W2 hn (HU.out.below HB02.out)).mono ?_
  rintro e w3 ⟨B1,rfl,hb3,hB1,hl1⟩
  clear hub
  obtain ⟨W3,hW3⟩:∃W3,W3=w3.alloc (.cells #[.int .i64 UW,.int .i64 UH,.slice (some ⟨B1,0,none⟩) n (n+2)] 47):=⟨_,rfl⟩
  have hs3:=hb3.size
  have hbb3:Below w3.heap.size w3 W3:=by rw [hW3];exact (Below.refl _ _).alloc (Nat.le_refl _) _
  have hsW3:W3.heap.size=w3.heap.size+1:=by rw [hW3];simp
  have hb23:Below W2.heap.size W2 W3:=hb3.trans (hbb3.mono hs3)
  have HRu3:=hide (row_below HRu.out hb23 (by omega))
  obtain ⟨ab,hab⟩:∃ab,ab=w3.heap.size:=⟨_,rfl⟩
  have HRa3:Hid (W3.rowIs ab 47 3 (gz UW UH (.slice (some ⟨B1,0,none⟩) n (n+2)))):=by unfold Hid;rw [hW3,hab];exact gz_row _ _ _ _ _
  have HL13:=hide (row_below hl1 hbb3 hl1.lt)
  have HB03:=hide (HB02.out.trans (hb23.mono (by omega)))
  have HB1l:Hid (B1<ab∧w.heap.size≤B1∧ab<W3.heap.size):=⟨by have:=hl1.lt;omega,by omega,by omega⟩
  have HK3:Hid (HK w0.heap.size w h s W3 s [] 0):=HK.below (HK.start HH.out) hsz0 (HBw2.out.trans (hb23.mono (by omega)))
  clear q0 q1 q2
  have hru3w:=row_below HRu.out hb3 (by omega)
  obtain ⟨q0,q1,q2⟩:=gz_cells hru3w
  have hq3:=hru3w.lt
  have HW3:=hide hW3
  have HAb:=hide hab
  clear hb3 hl1 hbb3 hb23 hW3 HW2 hru3w hsW3 hab hB1
  go_wp2_with fail
  rw [←HW3.out]
  try rw [←HAb.out]
  refine (glyphEncode_any (some ⟨B1,0,none⟩) n (n+2) UW UH U W3 (lentB_by HL13.out) HbU.out).mono ?_
  obtain ⟨T,hT⟩:∃T,T=encT UW UH n U:=⟨_,rfl⟩
  obtain ⟨E,hE⟩:∃E,E=encE UW UH n:=⟨_,rfl⟩
  rw [←hT,←hE]
  have HTE:=hide (And.intro hT hE)
  clear hT hE
  rintro e w4 ⟨rfl,hb4⟩
  have hs4:=hb4.size
  have HRu4:=hide (row_below HRu3.out hb4 HRu3.out.lt)
  have HRa4:=hide (row_below HRa3.out hb4 HRa3.out.lt)
  have HL14:=hide (row_below HL13.out hb4 HL13.out.lt)
  have HB04:=hide (HB03.out.trans (hb4.mono (by have:=HB03.out.size;omega)))
  have HK4:=hide (HK3.out.below hsz0 hb4)
  clear q0 q1 q2 hq3 hb4
  obtain ⟨q0,q1,q2⟩:=gz_cells HRu4.out
  have hq4:=HRu4.out.lt
  go_wp2_with fail
  refine (refEncode_any a n c UW UH U w4 (HU.out.below HB04.out) HbU.out).mono ?_
  rw [←HTE.out.1,←HTE.out.2]
  rintro e w5 ⟨rfl,hb5⟩
  have hs5:=hb5.size
  have HRu5:=hide (row_below HRu4.out hb5 HRu4.out.lt)
  have HRa5:=hide (row_below HRa4.out hb5 HRa4.out.lt)
  have HL15:=hide (row_below HL14.out hb5 HL14.out.lt)
  have HB05:=hide (HB04.out.trans (hb5.mono (by have:=HB04.out.size;omega)))
  have HK5:=hide (HK4.out.below hsz0 hb5)
  clear q0 q1 q2 hq4 hb5
  obtain ⟨q0,q1,q2⟩:=gz_cells HRu5.out
  obtain ⟨p0,p1,p2⟩:=gz_cells HRa5.out
  have hq5:=HRu5.out.lt
  have hp5:=HRa5.out.lt
  go_wp2_with fail
  refine (lentGray_any a B1 n c UW UH U w5 hn HL15.out (HU.out.below HB05.out)).mono ?_
  rintro e w6 ⟨rfl,hb6⟩
  have hs6:=hb6.size
  have hb6':Below w5.heap.size w5 w6.drew:=hb6.drew
  have hra6w:=row_below HRa5.out hb6 HRa5.out.lt
  have HRa6:=hide (row_below HRa5.out hb6' HRa5.out.lt)
  have HL16:=hide (row_below HL15.out hb6' HL15.out.lt)
  have HK6:=hide (HK5.out.below hsz0 hb6')
  clear q0 q1 q2 p0 p1 p2 hq5 hp5 hb6 hb6'
  obtain ⟨p0,p1,p2⟩:=gz_cells hra6w
  have hp6:=hra6w.lt
  have HCall:=hide (heldBytes_any h (.slice (some ⟨B1,0,none⟩) n (n+2)) s w6.drew HK6.out.inv (ByRow.of_row HL16.out (by omega) (by omega)) (fun q hq=>by
    simp [Value.ownBlock] at hq
    subst hq
    exact HK6.out.free HUB.out HB1l.out.2.1 (fun x hx=>by cases hx)) (by omega))
  clear hra6w
  go_wp2_with fail
  go_region_with (go_at_call 47;refine HCall.out.mono ?_;rintro e w7 ⟨rfl,hT7,s1,hI7,hK7⟩)
  have HK7:=hide (HK6.out.step hsz0 hh (fun q hq=>by simp [Value.ownBlock] at hq;subst hq;exact HB1l.out.2.1) hT7 hI7 hK7)
  clear hT7 hI7 hK7 HCall p0 p1 p2 hp6
  go_wp2_with (go_at_call 27;refine (num_any _ _).mono ?_;rintro e w' ⟨rfl,rfl⟩)
  go_ret
  exact ⟨rfl,HK7.out.bel,HK7.out.touch,s1,HK7.out.inv,by rw [HK7.out.n];omega,HK7.out.cs,HK7.out.rs,HK7.out.nu⟩
set_option maxRecDepth 100000 in
theorem decodes_any (t:ByteArray) (h:Nat) (s:HS) (w0 w:World) (ht:(t.size:Int)≤9000000000000000000)
    (hb0:Below w0.heap.size w0 w) (hh:w0.heap.size≤h) (H:HeldInv w h s) (hs:s.n+24≤1099511627776) :
    Calls Tryz.prog 15 #[.pointer (some ⟨h,0,none⟩),.string t] w fun e w'=>e=.returned (.bool true)∧Below w0.heap.size w w'∧Touch (Used h s) w w'∧∃s',HeldInv w' h s'∧s'.n≤s.n+24∧s'.cs=s.cs∧s'.rs=s.rs∧NewUsed w.heap.size h s s':=by
  have hsz0:=hb0.size
  have hhw:=H.wd.lt
  have HH:=hide H
  have HUB:=hide H.underB
  have HC1:=hide (glyphDecode_any t w ht)
  have HC2:=hide (fun w'=>refDecode_any t w' ht)
  obtain ⟨g1,hg1⟩:∃g,g=((decT t).1:Int):=⟨_,rfl⟩
  obtain ⟨g2,hg2⟩:∃g,g=((decT t).2.1:Int):=⟨_,rfl⟩
  obtain ⟨n,hn⟩:∃g,g=t.size-(decT t).2.2:=⟨_,rfl⟩
  obtain ⟨E,hE⟩:∃g,g=decE t:=⟨_,rfl⟩
  unfold DecO at HC1 HC2
  rw [←hg1,←hg2,←hn,←hE] at HC1
  simp only [←hg1,←hg2,←hn,←hE] at HC2
  have HN:Hid (n≤t.size):=by unfold Hid;omega
  obtain ⟨X,hX⟩:∃X:Nat→Int,X=fun k=>((Num.byt t ((decT t).2.2+k):Nat):Int):=⟨_,rfl⟩
  rw [←hX] at HC1
  simp only [←hX] at HC2
  clear hg1 hg2 hn hE hX hb0 H
  go_enter Tryz.func15,Tryz.ntmps15
  go_wp2_with fail
  refine HC1.out.mono ?_
  rintro e w1 ⟨ao,cap,rfl,hb1,hr1,hy1,ho1⟩
  obtain ⟨gb,hgb⟩:∃gb,gb=w1.heap.size:=⟨_,rfl⟩
  obtain ⟨W1,hW1⟩:∃W1,W1=w1.alloc (.cells #[.int .i64 g1,.int .i64 g2,.slice ao n cap] 47):=⟨_,rfl⟩
  have hbb1:Below w1.heap.size w1 W1:=by rw [hW1];exact (Below.refl _ _).alloc (Nat.le_refl _) _
  have hs1:=hb1.size
  have hb1':Below w.heap.size w W1:=hb1.trans (hbb1.mono hs1)
  have HG1:Hid (W1.rowIs gb 47 3 (gz g1 g2 (.slice ao n cap))):=by unfold Hid;rw [hW1,hgb];exact gz_row _ _ _ _ _
  have HR1:=hide (hr1.of_blocks (w':=W1) fun q hq=>hbb1.block q (hr1.lt hq).1)
  have HY1:=hide (hy1.below hbb1)
  have HO1:=hide ho1
  have HK1:Hid (HK w0.heap.size w h s W1 s [] 0):=HK.below (HK.start HH.out) hsz0 hb1'
  have HW1:=hide hW1
  have HGb:=hide hgb
  clear hb1 hr1 hy1 ho1 hbb1 hb1' hW1 hgb
  go_wp2_with fail
  rw [←HW1.out]
  try rw [←HGb.out]
  refine (HC2.out W1).mono ?_
  rintro e w2 ⟨ao2,cap2,rfl,hb2,hr2,hy2,ho2⟩
  obtain ⟨rb,hrb⟩:∃rb,rb=w2.heap.size:=⟨_,rfl⟩
  obtain ⟨W2,hW2⟩:∃W2,W2=w2.alloc (.cells #[.int .i64 g1,.int .i64 g2,.slice ao2 n cap2] 47):=⟨_,rfl⟩
  have hbb2:Below w2.heap.size w2 W2:=by rw [hW2];exact (Below.refl _ _).alloc (Nat.le_refl _) _
  have hs2:=hb2.size
  have hb2':Below W1.heap.size W1 W2:=hb2.trans (hbb2.mono hs2)
  have HG2:=hide (row_below HG1.out hb2' HG1.out.lt)
  have HR2:Hid (ByRow W2 (.slice ao n cap)):=HR1.out.of_blocks fun q hq=>hb2'.block q (HR1.out.lt hq).1
  have HY2:=hide (HY1.out.below hb2')
  have HZ2:=hide (hy2.below hbb2)
  have HK2:=hide (HK1.out.below hsz0 hb2')
  have hg2w:=row_below HG1.out hb2 HG1.out.lt
  obtain ⟨p0,p1,p2⟩:=gz_cells hg2w
  have hp2:=hg2w.lt
  have HW2:=hide hW2
  have HRb:=hide hrb
  clear hb2 hr2 hy2 ho2 hbb2 hb2' hW2 hrb hg2w
  go_wp2_with fail
  rw [←HW2.out]
  try rw [←HRb.out]
  refine (sameGray_any ao ao2 n cap cap2 g1 g2 X W2 (by have:=HN.out;omega) HY2.out HZ2.out).mono ?_
  rintro e w3 ⟨rfl,hb3⟩
  have hs3:=hb3.size
  have hb3':Below W2.heap.size W2 w3.drew:=hb3.drew
  have hg3w:=row_below HG2.out hb3 HG2.out.lt
  have HR3:Hid (ByRow w3.drew (.slice ao n cap)):=HR2.out.of_blocks fun q hq=>hb3'.block q (HR2.out.lt hq).1
  have HK3:=hide (HK2.out.below hsz0 hb3')
  clear p0 p1 p2 hp2 hb3 hb3'
  obtain ⟨p0,p1,p2⟩:=gz_cells hg3w
  have hp3:=hg3w.lt
  have HCall:=hide (heldBytes_any h (.slice ao n cap) s w3.drew HK3.out.inv HR3.out (fun q hq=>HK3.out.free HUB.out (HO1.out q hq) (fun x hx=>by cases hx)) (by omega))
  clear hg3w
  go_wp2_with fail
  go_region_with (go_at_call 47;refine HCall.out.mono ?_;rintro e w4 ⟨rfl,hT4,s1,hI4,hK4⟩)
  have HK4:=hide (HK3.out.step hsz0 hh (fun q hq=>HO1.out q hq) hT4 hI4 hK4)
  clear hT4 hI4 hK4 HCall p0 p1 p2 hp3
  go_wp2_with (go_at_call 27;refine (num_any _ _).mono ?_;rintro e w' ⟨rfl,rfl⟩)
  go_ret
  exact ⟨rfl,HK4.out.bel,HK4.out.touch,s1,HK4.out.inv,by rw [HK4.out.n];omega,HK4.out.cs,HK4.out.rs,HK4.out.nu⟩
end Go.Proofs.YtkhcjkmifddlbabGreatDoor
