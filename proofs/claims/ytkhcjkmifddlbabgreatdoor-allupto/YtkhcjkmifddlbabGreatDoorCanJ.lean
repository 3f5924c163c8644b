import Derived.Test.YtkhcjkmifddlbabGreatDoorPart15
import Derived.Test.YtkhcjkmifddlbabGreatDoorPart14
import Derived.Test.YtkhcjkmifddlbabGreatDoorPart18
import Derived.Test.YtkhcjkmifddlbabGreatDoorPart17
import Derived.Test.YtkhcjkmifddlbabGreatDoorPart12
set_option maxHeartbeats 8000000
namespace Go.Proofs.YtkhcjkmifddlbabGreatDoor
open Go.RowKit Go.Deep
set_option maxRecDepth 100000 in
theorem step8 (w:World) (h:Nat) (o:OpV) (Q:World→Prop) (hk:o.kd=8)
    (HC:Hid (∀w1,Below w.heap.size w w1→Calls Tryz.prog 7 #[.pointer (some ⟨h,0,none⟩),.slice o.ad o.N o.cc] w1 fun e w'=>e=.returned (.bool true)∧Q w')) :
    Calls Tryz.prog 5 #[.pointer (some ⟨h,0,none⟩),.agg (opL o).toArray] w fun e w'=>e=.returned (.bool true)∧Q w':=by
  obtain ⟨cs,hcs⟩:∃cs,cs=opL o:=⟨_,rfl⟩
  have q0:(w.alloc (.cells cs.toArray 49)).cell? ⟨w.heap.size,0,none⟩=some (.int .i64 o.kd):=op_range cs w _ 0 _ (by rw [hcs];rfl)
  have q6:(w.alloc (.cells cs.toArray 49)).cell? ⟨w.heap.size,6,none⟩=some (.slice o.ad o.N o.cc):=op_range cs w _ 6 _ (by rw [hcs];rfl)
  rw [hk] at q0
  rw [←hcs]
  clear hcs
  go_enter Tryz.func5,Tryz.ntmps5
  go_wp2_with fail
  refine (HC.out _ (by (repeat any_goals first | exact .refl _ _ | assumption | refine .drew ?_ | refine below_drewN ?_ _ | refine .setCell ?_ ?_ _ | refine .alloc ?_ ?_ _ | omega | (simp <;> omega)))).mono ?_
  rintro e w' ⟨rfl,hq⟩
  have HQ:=hide hq
  clear hq
  go_wp2
  go_ret
  exact ⟨rfl,HQ.out⟩
set_option maxRecDepth 100000 in
theorem step9 (w:World) (h:Nat) (o:OpV) (Q:World→Prop) (hk:o.kd=9)
    (HC:Hid (∀w1,Below w.heap.size w w1→Calls Tryz.prog 8 #[.pointer (some ⟨h,0,none⟩),.slice o.ad o.N o.cc] w1 fun e w'=>e=.returned (.bool true)∧Q w')) :
    Calls Tryz.prog 5 #[.pointer (some ⟨h,0,none⟩),.agg (opL o).toArray] w fun e w'=>e=.returned (.bool true)∧Q w':=by
  obtain ⟨cs,hcs⟩:∃cs,cs=opL o:=⟨_,rfl⟩
  have q0:(w.alloc (.cells cs.toArray 49)).cell? ⟨w.heap.size,0,none⟩=some (.int .i64 o.kd):=op_range cs w _ 0 _ (by rw [hcs];rfl)
  have q6:(w.alloc (.cells cs.toArray 49)).cell? ⟨w.heap.size,6,none⟩=some (.slice o.ad o.N o.cc):=op_range cs w _ 6 _ (by rw [hcs];rfl)
  rw [hk] at q0
  rw [←hcs]
  clear hcs
  go_enter Tryz.func5,Tryz.ntmps5
  go_wp2_with fail
  refine (HC.out _ (by (repeat any_goals first | exact .refl _ _ | assumption | refine .drew ?_ | refine below_drewN ?_ _ | refine .setCell ?_ ?_ _ | refine .alloc ?_ ?_ _ | omega | (simp <;> omega)))).mono ?_
  rintro e w' ⟨rfl,hq⟩
  have HQ:=hide hq
  clear hq
  go_wp2
  go_ret
  exact ⟨rfl,HQ.out⟩
set_option maxRecDepth 100000 in
theorem step10 (w:World) (h:Nat) (o:OpV) (Q:World→Prop) (hk:o.kd=10)
    (HC:Hid (∀w1,Below w.heap.size w w1→Calls Tryz.prog 9 #[.pointer (some ⟨h,0,none⟩),.agg #[.int .i64 o.m0,.int .i64 o.m1,.int .i64 o.m2,.int .i64 o.m3,.int .i64 o.m4,.int .i64 o.m5],.agg #[.int .i64 o.g1,.int .i64 o.g2]] w1 fun e w'=>e=.returned (.bool true)∧Q w')) :
    Calls Tryz.prog 5 #[.pointer (some ⟨h,0,none⟩),.agg (opL o).toArray] w fun e w'=>e=.returned (.bool true)∧Q w':=by
  obtain ⟨cs,hcs⟩:∃cs,cs=opL o:=⟨_,rfl⟩
  have q0:(w.alloc (.cells cs.toArray 49)).cell? ⟨w.heap.size,0,none⟩=some (.int .i64 o.kd):=op_range cs w _ 0 _ (by rw [hcs];rfl)
  have q7:(w.alloc (.cells cs.toArray 49)).cell? ⟨w.heap.size,7,none⟩=some (.int .i64 o.m0):=op_range cs w _ 7 _ (by rw [hcs];rfl)
  have q8:(w.alloc (.cells cs.toArray 49)).cell? ⟨w.heap.size,8,none⟩=some (.int .i64 o.m1):=op_range cs w _ 8 _ (by rw [hcs];rfl)
  have q9:(w.alloc (.cells cs.toArray 49)).cell? ⟨w.heap.size,9,none⟩=some (.int .i64 o.m2):=op_range cs w _ 9 _ (by rw [hcs];rfl)
  have q10:(w.alloc (.cells cs.toArray 49)).cell? ⟨w.heap.size,10,none⟩=some (.int .i64 o.m3):=op_range cs w _ 10 _ (by rw [hcs];rfl)
  have q11:(w.alloc (.cells cs.toArray 49)).cell? ⟨w.heap.size,11,none⟩=some (.int .i64 o.m4):=op_range cs w _ 11 _ (by rw [hcs];rfl)
  have q12:(w.alloc (.cells cs.toArray 49)).cell? ⟨w.heap.size,12,none⟩=some (.int .i64 o.m5):=op_range cs w _ 12 _ (by rw [hcs];rfl)
  have q14:(w.alloc (.cells cs.toArray 49)).cell? ⟨w.heap.size,14,none⟩=some (.int .i64 o.g1):=op_range cs w _ 14 _ (by rw [hcs];rfl)
  have q15:(w.alloc (.cells cs.toArray 49)).cell? ⟨w.heap.size,15,none⟩=some (.int .i64 o.g2):=op_range cs w _ 15 _ (by rw [hcs];rfl)
  rw [hk] at q0
  rw [←hcs]
  clear hcs
  go_enter Tryz.func5,Tryz.ntmps5
  go_wp2_with fail
  refine (HC.out _ (by (repeat any_goals first | exact .refl _ _ | assumption | refine .drew ?_ | refine below_drewN ?_ _ | refine .setCell ?_ ?_ _ | refine .alloc ?_ ?_ _ | omega | (simp <;> omega)))).mono ?_
  rintro e w' ⟨rfl,hq⟩
  have HQ:=hide hq
  clear hq
  go_wp2
  go_ret
  exact ⟨rfl,HQ.out⟩
set_option maxRecDepth 100000 in
theorem step11 (w:World) (h:Nat) (o:OpV) (Q:World→Prop) (hk:o.kd=11)
    (HC:Hid (∀w1,Below w.heap.size w w1→Calls Tryz.prog 10 #[.pointer (some ⟨h,0,none⟩),.agg #[.int .i64 o.g0,.int .i64 o.g1,.int .i64 o.g2,.int .i64 o.g3,.int .i64 o.g4,.int .i64 o.g5,.int .i64 o.g6,.int .i64 o.g7,.int .i64 o.g8]] w1 fun e w'=>e=.returned (.bool true)∧Q w')) :
    Calls Tryz.prog 5 #[.pointer (some ⟨h,0,none⟩),.agg (opL o).toArray] w fun e w'=>e=.returned (.bool true)∧Q w':=by
  obtain ⟨cs,hcs⟩:∃cs,cs=opL o:=⟨_,rfl⟩
  have q0:(w.alloc (.cells cs.toArray 49)).cell? ⟨w.heap.size,0,none⟩=some (.int .i64 o.kd):=op_range cs w _ 0 _ (by rw [hcs];rfl)
  have q13:(w.alloc (.cells cs.toArray 49)).cell? ⟨w.heap.size,13,none⟩=some (.int .i64 o.g0):=op_range cs w _ 13 _ (by rw [hcs];rfl)
  have q14:(w.alloc (.cells cs.toArray 49)).cell? ⟨w.heap.size,14,none⟩=some (.int .i64 o.g1):=op_range cs w _ 14 _ (by rw [hcs];rfl)
  have q15:(w.alloc (.cells cs.toArray 49)).cell? ⟨w.heap.size,15,none⟩=some (.int .i64 o.g2):=op_range cs w _ 15 _ (by rw [hcs];rfl)
  have q16:(w.alloc (.cells cs.toArray 49)).cell? ⟨w.heap.size,16,none⟩=some (.int .i64 o.g3):=op_range cs w _ 16 _ (by rw [hcs];rfl)
  have q17:(w.alloc (.cells cs.toArray 49)).cell? ⟨w.heap.size,17,none⟩=some (.int .i64 o.g4):=op_range cs w _ 17 _ (by rw [hcs];rfl)
  have q18:(w.alloc (.cells cs.toArray 49)).cell? ⟨w.heap.size,18,none⟩=some (.int .i64 o.g5):=op_range cs w _ 18 _ (by rw [hcs];rfl)
  have q19:(w.alloc (.cells cs.toArray 49)).cell? ⟨w.heap.size,19,none⟩=some (.int .i64 o.g6):=op_range cs w _ 19 _ (by rw [hcs];rfl)
  have q20:(w.alloc (.cells cs.toArray 49)).cell? ⟨w.heap.size,20,none⟩=some (.int .i64 o.g7):=op_range cs w _ 20 _ (by rw [hcs];rfl)
  have q21:(w.alloc (.cells cs.toArray 49)).cell? ⟨w.heap.size,21,none⟩=some (.int .i64 o.g8):=op_range cs w _ 21 _ (by rw [hcs];rfl)
  rw [hk] at q0
  rw [←hcs]
  clear hcs
  go_enter Tryz.func5,Tryz.ntmps5
  go_wp2_with fail
  refine (HC.out _ (by (repeat any_goals first | exact .refl _ _ | assumption | refine .drew ?_ | refine below_drewN ?_ _ | refine .setCell ?_ ?_ _ | refine .alloc ?_ ?_ _ | omega | (simp <;> omega)))).mono ?_
  rintro e w' ⟨rfl,hq⟩
  have HQ:=hide hq
  clear hq
  go_wp2
  go_ret
  exact ⟨rfl,HQ.out⟩
set_option maxRecDepth 100000 in
theorem step12 (w:World) (h:Nat) (o:OpV) (Q:World→Prop) (hk:o.kd=12)
    (HC:Hid (∀w1,Below w.heap.size w w1→Calls Tryz.prog 11 #[.pointer (some ⟨h,0,none⟩),.slice o.ad o.N o.cc,.agg #[.int .i64 o.m0,.int .i64 o.m1,.int .i64 o.m2,.int .i64 o.m3,.int .i64 o.m4,.int .i64 o.m5]] w1 fun e w'=>e=.returned (.bool true)∧Q w')) :
    Calls Tryz.prog 5 #[.pointer (some ⟨h,0,none⟩),.agg (opL o).toArray] w fun e w'=>e=.returned (.bool true)∧Q w':=by
  obtain ⟨cs,hcs⟩:∃cs,cs=opL o:=⟨_,rfl⟩
  have q0:(w.alloc (.cells cs.toArray 49)).cell? ⟨w.heap.size,0,none⟩=some (.int .i64 o.kd):=op_range cs w _ 0 _ (by rw [hcs];rfl)
  have q6:(w.alloc (.cells cs.toArray 49)).cell? ⟨w.heap.size,6,none⟩=some (.slice o.ad o.N o.cc):=op_range cs w _ 6 _ (by rw [hcs];rfl)
  have q7:(w.alloc (.cells cs.toArray 49)).cell? ⟨w.heap.size,7,none⟩=some (.int .i64 o.m0):=op_range cs w _ 7 _ (by rw [hcs];rfl)
  have q8:(w.alloc (.cells cs.toArray 49)).cell? ⟨w.heap.size,8,none⟩=some (.int .i64 o.m1):=op_range cs w _ 8 _ (by rw [hcs];rfl)
  have q9:(w.alloc (.cells cs.toArray 49)).cell? ⟨w.heap.size,9,none⟩=some (.int .i64 o.m2):=op_range cs w _ 9 _ (by rw [hcs];rfl)
  have q10:(w.alloc (.cells cs.toArray 49)).cell? ⟨w.heap.size,10,none⟩=some (.int .i64 o.m3):=op_range cs w _ 10 _ (by rw [hcs];rfl)
  have q11:(w.alloc (.cells cs.toArray 49)).cell? ⟨w.heap.size,11,none⟩=some (.int .i64 o.m4):=op_range cs w _ 11 _ (by rw [hcs];rfl)
  have q12:(w.alloc (.cells cs.toArray 49)).cell? ⟨w.heap.size,12,none⟩=some (.int .i64 o.m5):=op_range cs w _ 12 _ (by rw [hcs];rfl)
  rw [hk] at q0
  rw [←hcs]
  clear hcs
  go_enter Tryz.func5,Tryz.ntmps5
  go_wp2_with fail
  refine (HC.out _ (by (repeat any_goals first | exact .refl _ _ | assumption | refine .drew ?_ | refine below_drewN ?_ _ | refine .setCell ?_ ?_ _ | refine .alloc ?_ ?_ _ | omega | (simp <;> omega)))).mono ?_
  rintro e w' ⟨rfl,hq⟩
  have HQ:=hide hq
  clear hq
  go_wp2
  go_ret
  exact ⟨rfl,HQ.out⟩
set_option maxRecDepth 100000 in
theorem step13 (w:World) (h:Nat) (o:OpV) (Q:World→Prop) (hk:o.kd=13)
    (HC:Hid (∀w1,Below w.heap.size w w1→Calls Tryz.prog 12 #[.pointer (some ⟨h,0,none⟩),.agg #[.int .i64 o.g1,.int .i64 o.g2],.agg #[.int .i64 o.g7,.int .i64 o.g8]] w1 fun e w'=>e=.returned (.bool true)∧Q w')) :
    Calls Tryz.prog 5 #[.pointer (some ⟨h,0,none⟩),.agg (opL o).toArray] w fun e w'=>e=.returned (.bool true)∧Q w':=by
  obtain ⟨cs,hcs⟩:∃cs,cs=opL o:=⟨_,rfl⟩
  have q0:(w.alloc (.cells cs.toArray 49)).cell? ⟨w.heap.size,0,none⟩=some (.int .i64 o.kd):=op_range cs w _ 0 _ (by rw [hcs];rfl)
  have q14:(w.alloc (.cells cs.toArray 49)).cell? ⟨w.heap.size,14,none⟩=some (.int .i64 o.g1):=op_range cs w _ 14 _ (by rw [hcs];rfl)
  have q15:(w.alloc (.cells cs.toArray 49)).cell? ⟨w.heap.size,15,none⟩=some (.int .i64 o.g2):=op_range cs w _ 15 _ (by rw [hcs];rfl)
  have q20:(w.alloc (.cells cs.toArray 49)).cell? ⟨w.heap.size,20,none⟩=some (.int .i64 o.g7):=op_range cs w _ 20 _ (by rw [hcs];rfl)
  have q21:(w.alloc (.cells cs.toArray 49)).cell? ⟨w.heap.size,21,none⟩=some (.int .i64 o.g8):=op_range cs w _ 21 _ (by rw [hcs];rfl)
  rw [hk] at q0
  rw [←hcs]
  clear hcs
  go_enter Tryz.func5,Tryz.ntmps5
  go_wp2_with fail
  refine (HC.out _ (by (repeat any_goals first | exact .refl _ _ | assumption | refine .drew ?_ | refine below_drewN ?_ _ | refine .setCell ?_ ?_ _ | refine .alloc ?_ ?_ _ | omega | (simp <;> omega)))).mono ?_
  rintro e w' ⟨rfl,hq⟩
  have HQ:=hide hq
  clear hq
  go_wp2
  go_ret
  exact ⟨rfl,HQ.out⟩
set_option maxRecDepth 100000 in
theorem step14 (w:World) (h:Nat) (o:OpV) (Q:World→Prop) (hk:o.kd=14)
    (HC:Hid (∀w1,Below w.heap.size w w1→Calls Tryz.prog 13 #[.pointer (some ⟨h,0,none⟩),.slice o.ad o.N o.cc,.agg #[.int .i64 o.m0,.int .i64 o.m1,.int .i64 o.m2,.int .i64 o.m3,.int .i64 o.m4,.int .i64 o.m5],.int .i64 o.a,.int .i64 o.b] w1 fun e w'=>e=.returned (.bool true)∧Q w')) :
    Calls Tryz.prog 5 #[.pointer (some ⟨h,0,none⟩),.agg (opL o).toArray] w fun e w'=>e=.returned (.bool true)∧Q w':=by
  obtain ⟨cs,hcs⟩:∃cs,cs=opL o:=⟨_,rfl⟩
  have q0:(w.alloc (.cells cs.toArray 49)).cell? ⟨w.heap.size,0,none⟩=some (.int .i64 o.kd):=op_range cs w _ 0 _ (by rw [hcs];rfl)
  have q6:(w.alloc (.cells cs.toArray 49)).cell? ⟨w.heap.size,6,none⟩=some (.slice o.ad o.N o.cc):=op_range cs w _ 6 _ (by rw [hcs];rfl)
  have q7:(w.alloc (.cells cs.toArray 49)).cell? ⟨w.heap.size,7,none⟩=some (.int .i64 o.m0):=op_range cs w _ 7 _ (by rw [hcs];rfl)
  have q8:(w.alloc (.cells cs.toArray 49)).cell? ⟨w.heap.size,8,none⟩=some (.int .i64 o.m1):=op_range cs w _ 8 _ (by rw [hcs];rfl)
  have q9:(w.alloc (.cells cs.toArray 49)).cell? ⟨w.heap.size,9,none⟩=some (.int .i64 o.m2):=op_range cs w _ 9 _ (by rw [hcs];rfl)
  have q10:(w.alloc (.cells cs.toArray 49)).cell? ⟨w.heap.size,10,none⟩=some (.int .i64 o.m3):=op_range cs w _ 10 _ (by rw [hcs];rfl)
  have q11:(w.alloc (.cells cs.toArray 49)).cell? ⟨w.heap.size,11,none⟩=some (.int .i64 o.m4):=op_range cs w _ 11 _ (by rw [hcs];rfl)
  have q12:(w.alloc (.cells cs.toArray 49)).cell? ⟨w.heap.size,12,none⟩=some (.int .i64 o.m5):=op_range cs w _ 12 _ (by rw [hcs];rfl)
  have q1:(w.alloc (.cells cs.toArray 49)).cell? ⟨w.heap.size,1,none⟩=some (.int .i64 o.a):=op_range cs w _ 1 _ (by rw [hcs];rfl)
  have q2:(w.alloc (.cells cs.toArray 49)).cell? ⟨w.heap.size,2,none⟩=some (.int .i64 o.b):=op_range cs w _ 2 _ (by rw [hcs];rfl)
  rw [hk] at q0
  rw [←hcs]
  clear hcs
  go_enter Tryz.func5,Tryz.ntmps5
  go_wp2_with fail
  refine (HC.out _ (by (repeat any_goals first | exact .refl _ _ | assumption | refine .drew ?_ | refine below_drewN ?_ _ | refine .setCell ?_ ?_ _ | refine .alloc ?_ ?_ _ | omega | (simp <;> omega)))).mono ?_
  rintro e w' ⟨rfl,hq⟩
  have HQ:=hide hq
  clear hq
  go_wp2
  go_ret
  exact ⟨rfl,HQ.out⟩
set_option maxRecDepth 100000 in
theorem step15 (w:World) (h:Nat) (o:OpV) (Q:World→Prop) (hk:o.kd=15)
    (HC:Hid (∀w1,Below w.heap.size w w1→Calls Tryz.prog 14 #[.pointer (some ⟨h,0,none⟩),.agg #[.int .i64 o.uw,.int .i64 o.uh,.slice o.ua o.un o.uc]] w1 fun e w'=>e=.returned (.bool true)∧Q w')) :
    Calls Tryz.prog 5 #[.pointer (some ⟨h,0,none⟩),.agg (opL o).toArray] w fun e w'=>e=.returned (.bool true)∧Q w':=by
  obtain ⟨cs,hcs⟩:∃cs,cs=opL o:=⟨_,rfl⟩
  have q0:(w.alloc (.cells cs.toArray 49)).cell? ⟨w.heap.size,0,none⟩=some (.int .i64 o.kd):=op_range cs w _ 0 _ (by rw [hcs];rfl)
  have q22:(w.alloc (.cells cs.toArray 49)).cell? ⟨w.heap.size,22,none⟩=some (.int .i64 o.uw):=op_range cs w _ 22 _ (by rw [hcs];rfl)
  have q23:(w.alloc (.cells cs.toArray 49)).cell? ⟨w.heap.size,23,none⟩=some (.int .i64 o.uh):=op_range cs w _ 23 _ (by rw [hcs];rfl)
  have q24:(w.alloc (.cells cs.toArray 49)).cell? ⟨w.heap.size,24,none⟩=some (.slice o.ua o.un o.uc):=op_range cs w _ 24 _ (by rw [hcs];rfl)
  rw [hk] at q0
  rw [←hcs]
  clear hcs
  go_enter Tryz.func5,Tryz.ntmps5
  go_wp2_with fail
  refine (HC.out _ (by (repeat any_goals first | exact .refl _ _ | assumption | refine .drew ?_ | refine below_drewN ?_ _ | refine .setCell ?_ ?_ _ | refine .alloc ?_ ?_ _ | omega | (simp <;> omega)))).mono ?_
  rintro e w' ⟨rfl,hq⟩
  have HQ:=hide hq
  clear hq
  go_wp2
  go_ret
  exact ⟨rfl,HQ.out⟩
set_option maxRecDepth 100000 in
theorem step16 (w:World) (h:Nat) (o:OpV) (Q:World→Prop) (hk:o.kd=16)
    (HC:Hid (∀w1,Below w.heap.size w w1→Calls Tryz.prog 15 #[.pointer (some ⟨h,0,none⟩),.string o.t] w1 fun e w'=>e=.returned (.bool true)∧Q w')) :
    Calls Tryz.prog 5 #[.pointer (some ⟨h,0,none⟩),.agg (opL o).toArray] w fun e w'=>e=.returned (.bool true)∧Q w':=by
  obtain ⟨cs,hcs⟩:∃cs,cs=opL o:=⟨_,rfl⟩
  have q0:(w.alloc (.cells cs.toArray 49)).cell? ⟨w.heap.size,0,none⟩=some (.int .i64 o.kd):=op_range cs w _ 0 _ (by rw [hcs];rfl)
  have q28:(w.alloc (.cells cs.toArray 49)).cell? ⟨w.heap.size,28,none⟩=some (.string o.t):=op_range cs w _ 28 _ (by rw [hcs];rfl)
  rw [hk] at q0
  rw [←hcs]
  clear hcs
  go_enter Tryz.func5,Tryz.ntmps5
  go_wp2_with fail
  refine (HC.out _ (by (repeat any_goals first | exact .refl _ _ | assumption | refine .drew ?_ | refine below_drewN ?_ _ | refine .setCell ?_ ?_ _ | refine .alloc ?_ ?_ _ | omega | (simp <;> omega)))).mono ?_
  rintro e w' ⟨rfl,hq⟩
  have HQ:=hide hq
  clear hq
  go_wp2
  go_ret
  exact ⟨rfl,HQ.out⟩
set_option maxRecDepth 100000 in
theorem step17 (w:World) (h:Nat) (o:OpV) (Q:World→Prop) (hk:o.kd=17)
    (HC:Hid (∀w1,Below w.heap.size w w1→Calls Tryz.prog 16 #[.pointer (some ⟨h,0,none⟩),.agg #[.int .i64 o.uw,.int .i64 o.uh,.slice o.ua o.un o.uc],.agg #[.int .i64 o.vw,.int .i64 o.vh,.slice o.va o.vn o.vc],.int .i64 o.a,.int .i64 o.b,.int .i64 o.c] w1 fun e w'=>e=.returned (.bool true)∧Q w')) :
    Calls Tryz.prog 5 #[.pointer (some ⟨h,0,none⟩),.agg (opL o).toArray] w fun e w'=>e=.returned (.bool true)∧Q w':=by
  obtain ⟨cs,hcs⟩:∃cs,cs=opL o:=⟨_,rfl⟩
  have q0:(w.alloc (.cells cs.toArray 49)).cell? ⟨w.heap.size,0,none⟩=some (.int .i64 o.kd):=op_range cs w _ 0 _ (by rw [hcs];rfl)
  have q22:(w.alloc (.cells cs.toArray 49)).cell? ⟨w.heap.size,22,none⟩=some (.int .i64 o.uw):=op_range cs w _ 22 _ (by rw [hcs];rfl)
  have q23:(w.alloc (.cells cs.toArray 49)).cell? ⟨w.heap.size,23,none⟩=some (.int .i64 o.uh):=op_range cs w _ 23 _ (by rw [hcs];rfl)
  have q24:(w.alloc (.cells cs.toArray 49)).cell? ⟨w.heap.size,24,none⟩=some (.slice o.ua o.un o.uc):=op_range cs w _ 24 _ (by rw [hcs];rfl)
  have q25:(w.alloc (.cells cs.toArray 49)).cell? ⟨w.heap.size,25,none⟩=some (.int .i64 o.vw):=op_range cs w _ 25 _ (by rw [hcs];rfl)
  have q26:(w.alloc (.cells cs.toArray 49)).cell? ⟨w.heap.size,26,none⟩=some (.int .i64 o.vh):=op_range cs w _ 26 _ (by rw [hcs];rfl)
  have q27:(w.alloc (.cells cs.toArray 49)).cell? ⟨w.heap.size,27,none⟩=some (.slice o.va o.vn o.vc):=op_range cs w _ 27 _ (by rw [hcs];rfl)
  have q1:(w.alloc (.cells cs.toArray 49)).cell? ⟨w.heap.size,1,none⟩=some (.int .i64 o.a):=op_range cs w _ 1 _ (by rw [hcs];rfl)
  have q2:(w.alloc (.cells cs.toArray 49)).cell? ⟨w.heap.size,2,none⟩=some (.int .i64 o.b):=op_range cs w _ 2 _ (by rw [hcs];rfl)
  have q3:(w.alloc (.cells cs.toArray 49)).cell? ⟨w.heap.size,3,none⟩=some (.int .i64 o.c):=op_range cs w _ 3 _ (by rw [hcs];rfl)
  rw [hk] at q0
  rw [←hcs]
  clear hcs
  go_enter Tryz.func5,Tryz.ntmps5
  go_wp2_with fail
  refine (HC.out _ (by (repeat any_goals first | exact .refl _ _ | assumption | refine .drew ?_ | refine below_drewN ?_ _ | refine .setCell ?_ ?_ _ | refine .alloc ?_ ?_ _ | omega | (simp <;> omega)))).mono ?_
  rintro e w' ⟨rfl,hq⟩
  have HQ:=hide hq
  clear hq
  go_wp2
  go_ret
  exact ⟨rfl,HQ.out⟩
set_option maxRecDepth 100000 in
theorem stepRest (w:World) (h:Nat) (o:OpV) (Q:World→Prop) (hk:17<o.kd)
    (HC:Hid (∀w1,Below w.heap.size w w1→Calls Tryz.prog 17 #[.pointer (some ⟨h,0,none⟩),.agg (opL o).toArray] w1 fun e w'=>e=.returned (.bool true)∧Q w')) :
    Calls Tryz.prog 5 #[.pointer (some ⟨h,0,none⟩),.agg (opL o).toArray] w fun e w'=>e=.returned (.bool true)∧Q w':=by
  obtain ⟨cs,hcs⟩:∃cs,cs=opL o:=⟨_,rfl⟩
  have hlen:cs.length=29:=by rw [hcs];rfl
  have q0:(w.alloc (.cells cs.toArray 49)).cell? ⟨w.heap.size,0,none⟩=some (.int .i64 o.kd):=op_range cs w _ 0 _ (by rw [hcs];rfl)
  have HR:=hide (op_range cs w 49)
  have HI:Hid ((Tryz.prog.info? 49).map (·.size)=some cs.length):=by unfold Hid;rw [hlen];exact info_op
  rw [←hcs] at HC ⊢
  obtain ⟨kd,hkd⟩:∃kd,kd=o.kd:=⟨_,rfl⟩
  rw [←hkd] at hk q0
  have k8:¬kd=8:=by omega
  have k9:¬kd=9:=by omega
  have k10:¬kd=10:=by omega
  have k11:¬kd=11:=by omega
  have k12:¬kd=12:=by omega
  have k13:¬kd=13:=by omega
  have k14:¬kd=14:=by omega
  have k15:¬kd=15:=by omega
  have k16:¬kd=16:=by omega
  have k17:¬kd=17:=by omega
  clear hcs hkd hlen
  go_enter Tryz.func5,Tryz.ntmps5
  go_wp2_with (refine wpList_load_mid rfl 49 _ rfl w.heap.size 0 rfl cs _ HR.out Tryz.underlying49 rfl HI.out ?_)
  refine (HC.out _ (by (repeat any_goals first | exact .refl _ _ | assumption | refine .drew ?_ | refine below_drewN ?_ _ | refine .setCell ?_ ?_ _ | refine .alloc ?_ ?_ _ | omega | (simp <;> omega)))).mono ?_
  rintro e w' ⟨rfl,hq⟩
  have HQ:=hide hq
  clear hq
  go_wp2
  go_ret
  exact ⟨rfl,HQ.out⟩
set_option maxRecDepth 100000 in
theorem stepAll (w0:World) (h:Nat) (o:OpV) (q:Nat) (hq:q≤1048576) (ha:OpAt w0 o q) (hh:w0.heap.size≤h):StepOk w0 h o:=by
  by_cases hk:o.kd≤7
  · exact stepLow w0 h o q hq ha hh hk
  intro w s K B R F hb0 H CC hK hs
  have hsz0:=hb0.size
  have fin:∀w1 w',Below w.heap.size w w1→Below w0.heap.size w1 w'→(∃s',HeldInv w' h s'∧s'.n≤s.n+o.N+24∧s'.cs=s.cs∧s'.rs=s.rs∧Touch (Used h s) w1 w'∧NewUsed w1.heap.size h s s')→CanQ w0 w h s K o.N w':=fun w1 w' hb hbe ⟨s',hI,hn,hcs,hrs,hT,hU⟩=>
    ⟨(hb.mono hsz0).trans hbe,s',K,B,R,F,hI,(CC.below hb).step hT hU hcs hrs,hn,by omega⟩
  have hN:o.N≤2097152:=by have:=ha.hN;omega
  have hn:∀i,i<o.N→o.n i≤2097152:=fun i hi=>by have:=ha.hn i hi;omega
  have hS:Num.sumN o.n o.N≤1099511627776:=by have:=ha.hS;omega
  have hUn:o.un≤140737488355328:=by have:=ha.hU;omega
  have hVn:o.vn≤140737488355328:=by have:=ha.hV;omega
  have htn:(o.t.size:Int)≤9000000000000000000:=by have:=ha.ht;omega
  by_cases h8:o.kd=8
  · exact step8 w h o (CanQ w0 w h s K o.N) h8 (fun w1 hb=>(checks_any o.ad o.N o.cc h o.A o.C o.n o.X o.Y o.K s w0 w1 hN hn hS ha.out (hb0.trans (hb.mono hsz0)) hh (H.below hb) (by omega)).mono fun e w' ⟨he,hbe,s',hI,hn',hcs,hrs,hT,hU⟩=>⟨he,fin w1 w' hb hbe ⟨s',hI,by omega,hcs,hrs,hT,hU⟩⟩)
  by_cases h9:o.kd=9
  · exact step9 w h o (CanQ w0 w h s K o.N) h9 (fun w1 hb=>(segments_any o.ad o.N o.cc h o.A o.C o.n o.X o.Y o.K s w0 w1 hN hn hS ha.out (hb0.trans (hb.mono hsz0)) hh (H.below hb) (by omega)).mono fun e w' ⟨he,hbe,s',hI,hn',hcs,hrs,hT,hU⟩=>⟨he,fin w1 w' hb hbe ⟨s',hI,by omega,hcs,hrs,hT,hU⟩⟩)
  by_cases h10:o.kd=10
  · exact step10 w h o (CanQ w0 w h s K o.N) h10 (fun w1 hb=>(places_any _ _ _ _ _ _ _ _ _ w1).mono fun e w' ⟨he,hbe⟩=>⟨he,fin w1 w' hb (hbe.mono (Nat.le_trans hsz0 hb.size)) ⟨s,(H.below hb).below hbe,by omega,rfl,rfl,(Touch.refl _ _).of_below hbe,NewUsed.refl _ _ _⟩⟩)
  by_cases h11:o.kd=11
  · exact step11 w h o (CanQ w0 w h s K o.N) h11 (fun w1 hb=>(curves_any h w0.heap.size o.g0 o.g1 o.g2 o.g3 o.g4 o.g5 o.g6 o.g7 o.g8 s w1 hh (H.below hb) (by omega)).mono fun e w' ⟨he,hbe,s',hI,hn',hcs,hrs,hT,hU⟩=>⟨he,fin w1 w' hb hbe ⟨s',hI,by omega,hcs,hrs,hT,hU⟩⟩)
  by_cases h12:o.kd=12
  · exact step12 w h o (CanQ w0 w h s K o.N) h12 (fun w1 hb=>(traces_any o.ad o.N o.cc h o.A o.C o.n o.X o.Y o.K o.m0 o.m1 o.m2 o.m3 o.m4 o.m5 s w0 w1 hN hn hS ha.out (hb0.trans (hb.mono hsz0)) hh (H.below hb) (by omega)).mono fun e w' ⟨he,hbe,s',hI,hn',hcs,hrs,hT,hU⟩=>⟨he,fin w1 w' hb hbe ⟨s',hI,by omega,hcs,hrs,hT,hU⟩⟩)
  by_cases h13:o.kd=13
  · exact step13 w h o (CanQ w0 w h s K o.N) h13 (fun w1 hb=>(cuts_any h w0.heap.size o.g1 o.g2 o.g7 o.g8 s w1 hh (H.below hb) (by omega)).mono fun e w' ⟨he,hbe,s',hI,hn',hcs,hrs,hT,hU⟩=>⟨he,fin w1 w' hb hbe ⟨s',hI,by omega,hcs,hrs,hT,hU⟩⟩)
  by_cases h14:o.kd=14
  · exact step14 w h o (CanQ w0 w h s K o.N) h14 (fun w1 hb=>(renders_any o.ad o.N o.cc h o.A o.C o.n o.X o.Y o.K o.m0 o.m1 o.m2 o.m3 o.m4 o.m5 o.a o.b s w0 w1 hN hn hS ha.out (hb0.trans (hb.mono hsz0)) hh (H.below hb) (by omega)).mono fun e w' ⟨he,hbe,hT,s',hI,hn',hcs,hrs,hU⟩=>⟨he,fin w1 w' hb hbe ⟨s',hI,by omega,hcs,hrs,hT,hU⟩⟩)
  by_cases h15:o.kd=15
  · exact step15 w h o (CanQ w0 w h s K o.N) h15 (fun w1 hb=>(encodes_any o.ua o.un o.uc h o.uw o.uh o.U s w0 w1 hUn ha.bU ha.rU (hb0.trans (hb.mono hsz0)) hh (H.below hb) (by omega)).mono fun e w' ⟨he,hbe,hT,s',hI,hn',hcs,hrs,hU⟩=>⟨he,fin w1 w' hb hbe ⟨s',hI,by omega,hcs,hrs,hT,hU⟩⟩)
  by_cases h16:o.kd=16
  · exact step16 w h o (CanQ w0 w h s K o.N) h16 (fun w1 hb=>(decodes_any o.t h s w0 w1 htn (hb0.trans (hb.mono hsz0)) hh (H.below hb) (by omega)).mono fun e w' ⟨he,hbe,hT,s',hI,hn',hcs,hrs,hU⟩=>⟨he,fin w1 w' hb hbe ⟨s',hI,by omega,hcs,hrs,hT,hU⟩⟩)
  by_cases h17:o.kd=17
  · exact step17 w h o (CanQ w0 w h s K o.N) h17 (fun w1 hb=>(lays_any o.ua o.va o.un o.vn o.uc o.vc h o.uw o.uh o.vw o.vh o.a o.b o.c o.U o.V s w0 w1 hUn hVn ha.bU ha.bV ha.rU ha.rV (hb0.trans (hb.mono hsz0)) hh (H.below hb) (by omega)).mono fun e w' ⟨he,hbe,hT,s',hI,hn',hcs,hrs,hU⟩=>⟨he,fin w1 w' hb hbe ⟨s',hI,by omega,hcs,hrs,hT,hU⟩⟩)
  exact stepRest w h o (CanQ w0 w h s K o.N) (by omega) (fun w1 hb=>
    (canvas_any h K o.kd o.a o.b o.c o.d o.k o.ad o.N o.cc o.A o.C o.n o.X o.Y o.K o.m0 o.m1 o.m2 o.m3 o.m4 o.m5 o.g0 o.g1 o.g2 o.g3 o.g4 o.g5 o.g6 o.g7 o.g8 o.uw o.uh o.ua o.un o.uc o.vw o.vh o.va o.vn o.vc o.t s B R F w0 w1 hN hn hS ha.out ha.hk (hb0.trans (hb.mono hsz0)) hh (H.below hb) (CC.below hb) hK hs).mono fun e w' ⟨he,hbe,r⟩=>⟨he,(hb.mono hsz0).trans hbe,r⟩)
set_option maxRecDepth 100000 in
theorem all_any (ad:Option Addr) (L cc:Nat) (ops:Nat→OpV) (w:World) (hL:L≤1048576) (hsc:ScrAt w ad L ops) (hsum:Num.sumN (fun i=>(ops i).N) L≤1048576) (q:Nat) (hq:q≤1048576) (ha:∀i,i<L→OpAt w (ops i) q) :
    Calls Tryz.prog 3 #[.slice ad L cc] w fun e w'=>e=.returned (.bool true)∧Below w.heap.size w w':=by
  have HC:=hide (plays_any ad L cc 17 ops w hL hsc hsum (fun i hi _=>stepAll w w.heap.size (ops i) q hq (ha i hi) (Nat.le_refl _)))
  clear hsc ha
  go_enter Tryz.func3,Tryz.ntmps3
  go_wp2_with fail
  refine HC.out.mono ?_
  rintro e w' ⟨rfl,hb⟩
  have HB:=hide hb
  clear hb
  go_wp2
  go_ret
  exact ⟨rfl,HB.out⟩
end Go.Proofs.YtkhcjkmifddlbabGreatDoor
