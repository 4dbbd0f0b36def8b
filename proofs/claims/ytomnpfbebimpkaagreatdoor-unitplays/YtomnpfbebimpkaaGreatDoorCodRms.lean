/-
  Msg of the reference: is a message sound?
-/
import Derived.Test.YtomnpfbebimpkaaGreatDoorCodSnd
import Derived.Deep.DeepCutAuto
import Derived.Test.YtomnpfbebimpkaaGreatDoorSq
namespace Go.Proofs.YtomnpfbebimpkaaGreatDoor
set_option maxRecDepth 20000
open Go.RowKit
theorem rsamem_z (a:Mm) (w:World) (la:InM a w):Calls Tryz.prog 59 #[.agg (mca a),.agg #[.int .i64 0,.int .u64 0,.int .u64 0,.int .u64 0,.int .u64 0,.int .u64 0,.int .u64 0,.int .u64 0,.int .u64 0,.int .u64 0,.int .u64 0,.int .u64 0,.int .u64 0,.int .u64 0,.int .u64 0,.int .u64 0,.int .u64 0,.int .u64 0,.int .u64 0,.int .u64 0,.int .u64 0,.int .u64 0,.int .u64 0,.int .u64 0,.int .u64 0,.int .i64 0,Value.slice none 0 0,.int .i64 0,.int .i64 0,.int .i64 0,Value.bool false]] w fun e w'=>e= .returned (.bool (mEq a.u zMu))∧Below w.heap.size w w':=by
 rw[zMca];exact rsamem_any a zMm (by decide) w la (zMm_in w)
def plainG (g : Gm) : Bool := (g.port == 0) && hEq g.head zHd
def RmS (w : World) (g : Gm) (W : World) : Prop := Blk w.heap.size (gca g) 42 W ∧ Below w.heap.size w W
theorem RmS.below {w W W':World} {g:Gm} (hb:Below W.heap.size W W') (h:RmS w g W):RmS w g W':=⟨h.1.below hb,h.2.trans (hb.mono h.2.size)⟩
set_option maxHeartbeats 4000000 in
set_option maxRecDepth 100000 in
theorem rms_1 (g:Gm) (hk:g.kind=1) (y:Bool) (hY:y=((decide (0≤g.txn)&&decide (g.txn≤4294967295))&&(sndM g.mod.u&&((g.e==0)&&(plainG g&&decide (g.n=0)))))) (hw:WfMs g.u) (w:World) (hi:InG g w):Calls Tryz.prog 60 #[.agg (gca g)] w fun e w'=>e= .returned (.bool y)∧Below w.heap.size w w':=by
 have HI:=qH hi;have HW:=qH hw;have HWR:=qH (show WfRL g.rs from fun r hr=>hw.rules _ (List.mem_map_of_mem hr));have HY:=qH hY;clear hi hw hY;have S0:=qH (show RmS w g (w.alloc (.cells (gca g) 42)) from⟨Blk.new _ _ _,below1 _ _⟩);have HC:=qH (rsamem_z g.mod _ (HI.out.1.below S0.out.2));have M0:=qH S0.out.1.cellsG.mod;(go_enter Tryz.func60,Tryz.ntmps60);(go_upto_region 2 with(first|(refine wpList_load_mid rfl 40 _ rfl w.heap.size 3 rfl (mcl g.mod) _ M0.out Tryz.underlying40 rfl (by rw[mcl_len];exact infoM) ?_)|(go_at_call 59;refine HC.out.mono ?_;rintro e V ⟨rfl,hw1⟩;refine Hid.out ?_)));have S2:=qH (S0.out.below hw1);clear hw1 HC M0 S0;generalize mEq g.mod.u zMu=ym at*;have k34:=S2.out.1.cellsG.port;have MH:=qH S2.out.1.cellsG.head;have heq:=eqlH g.head V;have hgd:=guardHead;refine qH ?_;(go_upto_region 2 with fail);go_cut [4] (fun t W=>t= .bool (plainG g)∧RmS w g W)
 case first=>
  by_cases hp:g.port=0
  ·have hpd:=eq_true0 hp;(go_wp2_with(refine loadMidG rfl 35 _ rfl w.heap.size 35 rfl (hl g.head) _ MH.out Tryz.underlying35 rfl infoHead ?_));go_meet
   case rel=>exact⟨by unfold plainG;rw[hpd,Bool.true_and],S2.out⟩
  ·have hpd:=eq_false0 hp;(go_wp2_with fail);go_meet
   case rel=>exact⟨by unfold plainG;rw[hpd,Bool.false_and],S2.out⟩
 case rest=>
  obtain⟨rfl,hS⟩:=hcut;clear heq hgd MH S2 k34;have S2:=qH hS;clear hS;generalize wc=V at*;generalize plainG g=yp at*;have k0:=S2.out.1.cellsG.kind;have k1:=S2.out.1.cellsG.txn;have k2:=S2.out.1.cellsG.e;have k47:=S2.out.1.cellsG.rules;have k34:=S2.out.1.cellsG.port;rw[hk] at k0;by_cases ht0:0≤g.txn;rotate_left
  ·have ht0l:g.txn<0:=(by omega);(go_wp2_with fail);go_ret;exact⟨ret_bool (by rw[HY.out,show decide (0≤g.txn)=false from decide_eq_false (by omega)];rfl),S2.out.2⟩
  have ht0l:¬g.txn<0:=(by omega);have d0:=qH (show decide (0≤g.txn)=true from decide_eq_true ht0);by_cases ht1:g.txn≤4294967295;rotate_left
  ·have ht1l:4294967295<g.txn:=(by omega);(go_wp2_with fail);go_ret;exact⟨ret_bool (by rw[HY.out,d0.out,show decide (g.txn≤4294967295)=false from decide_eq_false (by omega)];rfl),S2.out.2⟩
  have ht1l:¬4294967295<g.txn:=(by omega);have d1:=qH (show decide (g.txn≤4294967295)=true from decide_eq_true ht1);have MM:=qH S2.out.1.cellsG.mod;have HCm:=qH (rmod_any g.mod HW.out.mod V (HI.out.1.below S2.out.2));cases hym:sndM g.mod.u
  ·skip;rw[hym] at HCm;have HYm:=qH hym;clear hym;(go_wp2_with(first|(refine wpList_load_mid rfl 40 _ rfl w.heap.size 3 rfl (mcl g.mod) _ MM.out Tryz.underlying40 rfl (by rw[mcl_len];exact infoM) ?_)|(go_at_call 25;refine HCm.out.mono ?_;rintro e Xm ⟨rfl,hw1⟩;refine Hid.out ?_)));have Sm:=qH (S2.out.below hw1);clear hw1 HCm S2 MM k2 k47;refine qH ?_;(go_wp2_with fail);go_ret;exact⟨ret_bool (by rw[HY.out,d0.out,d1.out,HYm.out];rfl),Sm.out.2⟩
  rw[hym] at HCm;have HYm:=qH hym;clear hym;(go_wp2_with(first|(refine wpList_load_mid rfl 40 _ rfl w.heap.size 3 rfl (mcl g.mod) _ MM.out Tryz.underlying40 rfl (by rw[mcl_len];exact infoM) ?_)|(go_at_call 25;refine HCm.out.mono ?_;rintro e Xm ⟨rfl,hw1⟩;refine Hid.out ?_)));have Sm:=qH (S2.out.below hw1);clear hw1 HCm S2 MM k2 k47;refine qH ?_;have k2:=Sm.out.1.cellsG.e;have k47:=Sm.out.1.cellsG.rules;by_cases he:g.e=0;rotate_left
  ·have hed:=eq_false0 he;have hef:=qH (show(g.e==0)=false from hed);(go_wp2_with fail);go_ret;exact⟨ret_bool (by rw[HY.out,d0.out,d1.out,HYm.out,hef.out];rfl),Sm.out.2⟩
  have hed:=eq_true0 he;have hef:=qH (show(g.e==0)=true from hed);cases yp
  ·skip;(go_wp2_with fail);go_ret;exact⟨ret_bool (by rw[HY.out,d0.out,d1.out,HYm.out,hef.out];rfl),Sm.out.2⟩
  by_cases hl:g.n=0;rotate_left
  ·have hld:=nat0' hl;have hlf:=qH (show decide (g.n=0)=false from decide_eq_false hl);(go_wp2_with fail);go_ret;exact⟨ret_bool (by rw[HY.out,d0.out,d1.out,HYm.out,hef.out,hlf.out];rfl),Sm.out.2⟩
  have hld:=nat0 hl;have hlf:=qH (show decide (g.n=0)=true from decide_eq_true hl);(go_wp2_with fail);go_ret;exact⟨ret_bool (by rw[HY.out,d0.out,d1.out,HYm.out,hef.out,hlf.out];rfl),Sm.out.2⟩
set_option maxHeartbeats 4000000 in
set_option maxRecDepth 100000 in
theorem rms_6 (g:Gm) (hk:g.kind=6) (y:Bool) (hY:y=((decide (0≤g.txn)&&decide (g.txn≤4294967295))&&(mEq g.mod.u zMu&&(decide (1≤g.e)&&(decide (g.e≤17)&&(plainG g&&decide (g.n=0))))))) (hw:WfMs g.u) (w:World) (hi:InG g w):Calls Tryz.prog 60 #[.agg (gca g)] w fun e w'=>e= .returned (.bool y)∧Below w.heap.size w w':=by
 have HI:=qH hi;have HW:=qH hw;have HWR:=qH (show WfRL g.rs from fun r hr=>hw.rules _ (List.mem_map_of_mem hr));have HY:=qH hY;clear hi hw hY;have S0:=qH (show RmS w g (w.alloc (.cells (gca g) 42)) from⟨Blk.new _ _ _,below1 _ _⟩);have HC:=qH (rsamem_z g.mod _ (HI.out.1.below S0.out.2));have M0:=qH S0.out.1.cellsG.mod;(go_enter Tryz.func60,Tryz.ntmps60);(go_upto_region 2 with(first|(refine wpList_load_mid rfl 40 _ rfl w.heap.size 3 rfl (mcl g.mod) _ M0.out Tryz.underlying40 rfl (by rw[mcl_len];exact infoM) ?_)|(go_at_call 59;refine HC.out.mono ?_;rintro e V ⟨rfl,hw1⟩;refine Hid.out ?_)));have S2:=qH (S0.out.below hw1);clear hw1 HC M0 S0;generalize mEq g.mod.u zMu=ym at*;have k34:=S2.out.1.cellsG.port;have MH:=qH S2.out.1.cellsG.head;have heq:=eqlH g.head V;have hgd:=guardHead;refine qH ?_;(go_upto_region 2 with fail);go_cut [4] (fun t W=>t= .bool (plainG g)∧RmS w g W)
 case first=>
  by_cases hp:g.port=0
  ·have hpd:=eq_true0 hp;(go_wp2_with(refine loadMidG rfl 35 _ rfl w.heap.size 35 rfl (hl g.head) _ MH.out Tryz.underlying35 rfl infoHead ?_));go_meet
   case rel=>exact⟨by unfold plainG;rw[hpd,Bool.true_and],S2.out⟩
  ·have hpd:=eq_false0 hp;(go_wp2_with fail);go_meet
   case rel=>exact⟨by unfold plainG;rw[hpd,Bool.false_and],S2.out⟩
 case rest=>
  obtain⟨rfl,hS⟩:=hcut;clear heq hgd MH S2 k34;have S2:=qH hS;clear hS;generalize wc=V at*;generalize plainG g=yp at*;have k0:=S2.out.1.cellsG.kind;have k1:=S2.out.1.cellsG.txn;have k2:=S2.out.1.cellsG.e;have k47:=S2.out.1.cellsG.rules;have k34:=S2.out.1.cellsG.port;rw[hk] at k0;by_cases ht0:0≤g.txn;rotate_left
  ·have ht0l:g.txn<0:=(by omega);(go_wp2_with fail);go_ret;exact⟨ret_bool (by rw[HY.out,show decide (0≤g.txn)=false from decide_eq_false (by omega)];rfl),S2.out.2⟩
  have ht0l:¬g.txn<0:=(by omega);have d0:=qH (show decide (0≤g.txn)=true from decide_eq_true ht0);by_cases ht1:g.txn≤4294967295;rotate_left
  ·have ht1l:4294967295<g.txn:=(by omega);(go_wp2_with fail);go_ret;exact⟨ret_bool (by rw[HY.out,d0.out,show decide (g.txn≤4294967295)=false from decide_eq_false (by omega)];rfl),S2.out.2⟩
  have ht1l:¬4294967295<g.txn:=(by omega);have d1:=qH (show decide (g.txn≤4294967295)=true from decide_eq_true ht1);cases ym
  ·skip;(go_wp2_with fail);go_ret;exact⟨ret_bool (by rw[HY.out,d0.out,d1.out];rfl),S2.out.2⟩
  by_cases hg1:1≤g.e;rotate_left
  ·skip;have hg1f:=qH (show decide (1≤g.e)=false from decide_eq_false (by omega));(go_wp2_with fail);go_ret;exact⟨ret_bool (by rw[HY.out,d0.out,d1.out,hg1f.out];rfl),S2.out.2⟩
  skip;have hg1f:=qH (show decide (1≤g.e)=true from decide_eq_true (by omega));by_cases hg2:g.e≤17;rotate_left
  ·skip;have hg2f:=qH (show decide (g.e≤17)=false from decide_eq_false (by omega));(go_wp2_with fail);go_ret;exact⟨ret_bool (by rw[HY.out,d0.out,d1.out,hg1f.out,hg2f.out];rfl),S2.out.2⟩
  skip;have hg2f:=qH (show decide (g.e≤17)=true from decide_eq_true (by omega));cases yp
  ·skip;(go_wp2_with fail);go_ret;exact⟨ret_bool (by rw[HY.out,d0.out,d1.out,hg1f.out,hg2f.out];rfl),S2.out.2⟩
  by_cases hl:g.n=0;rotate_left
  ·have hld:=nat0' hl;have hlf:=qH (show decide (g.n=0)=false from decide_eq_false hl);(go_wp2_with fail);go_ret;exact⟨ret_bool (by rw[HY.out,d0.out,d1.out,hg1f.out,hg2f.out,hlf.out];rfl),S2.out.2⟩
  have hld:=nat0 hl;have hlf:=qH (show decide (g.n=0)=true from decide_eq_true hl);(go_wp2_with fail);go_ret;exact⟨ret_bool (by rw[HY.out,d0.out,d1.out,hg1f.out,hg2f.out,hlf.out];rfl),S2.out.2⟩
set_option maxHeartbeats 4000000 in
set_option maxRecDepth 100000 in
theorem rms_8 (g:Gm) (hk:g.kind=8) (y:Bool) (hY:y=((decide (0≤g.txn)&&decide (g.txn≤4294967295))&&(mEq g.mod.u zMu&&((g.e==0)&&(decide (1≤g.port)&&(decide (g.port≤16)&&(sndB g.head&&decide (g.n=0)))))))) (hw:WfMs g.u) (w:World) (hi:InG g w):Calls Tryz.prog 60 #[.agg (gca g)] w fun e w'=>e= .returned (.bool y)∧Below w.heap.size w w':=by
 have HI:=qH hi;have HW:=qH hw;have HWR:=qH (show WfRL g.rs from fun r hr=>hw.rules _ (List.mem_map_of_mem hr));have HY:=qH hY;clear hi hw hY;have S0:=qH (show RmS w g (w.alloc (.cells (gca g) 42)) from⟨Blk.new _ _ _,below1 _ _⟩);have HC:=qH (rsamem_z g.mod _ (HI.out.1.below S0.out.2));have M0:=qH S0.out.1.cellsG.mod;(go_enter Tryz.func60,Tryz.ntmps60);(go_upto_region 2 with(first|(refine wpList_load_mid rfl 40 _ rfl w.heap.size 3 rfl (mcl g.mod) _ M0.out Tryz.underlying40 rfl (by rw[mcl_len];exact infoM) ?_)|(go_at_call 59;refine HC.out.mono ?_;rintro e V ⟨rfl,hw1⟩;refine Hid.out ?_)));have S2:=qH (S0.out.below hw1);clear hw1 HC M0 S0;generalize mEq g.mod.u zMu=ym at*;have k34:=S2.out.1.cellsG.port;have MH:=qH S2.out.1.cellsG.head;have heq:=eqlH g.head V;have hgd:=guardHead;refine qH ?_;(go_upto_region 2 with fail);go_cut [4] (fun t W=>t= .bool (plainG g)∧RmS w g W)
 case first=>
  by_cases hp:g.port=0
  ·have hpd:=eq_true0 hp;(go_wp2_with(refine loadMidG rfl 35 _ rfl w.heap.size 35 rfl (hl g.head) _ MH.out Tryz.underlying35 rfl infoHead ?_));go_meet
   case rel=>exact⟨by unfold plainG;rw[hpd,Bool.true_and],S2.out⟩
  ·have hpd:=eq_false0 hp;(go_wp2_with fail);go_meet
   case rel=>exact⟨by unfold plainG;rw[hpd,Bool.false_and],S2.out⟩
 case rest=>
  obtain⟨rfl,hS⟩:=hcut;clear heq hgd MH S2 k34;have S2:=qH hS;clear hS;generalize wc=V at*;generalize plainG g=yp at*;have k0:=S2.out.1.cellsG.kind;have k1:=S2.out.1.cellsG.txn;have k2:=S2.out.1.cellsG.e;have k47:=S2.out.1.cellsG.rules;have k34:=S2.out.1.cellsG.port;rw[hk] at k0;by_cases ht0:0≤g.txn;rotate_left
  ·have ht0l:g.txn<0:=(by omega);(go_wp2_with fail);go_ret;exact⟨ret_bool (by rw[HY.out,show decide (0≤g.txn)=false from decide_eq_false (by omega)];rfl),S2.out.2⟩
  have ht0l:¬g.txn<0:=(by omega);have d0:=qH (show decide (0≤g.txn)=true from decide_eq_true ht0);by_cases ht1:g.txn≤4294967295;rotate_left
  ·have ht1l:4294967295<g.txn:=(by omega);(go_wp2_with fail);go_ret;exact⟨ret_bool (by rw[HY.out,d0.out,show decide (g.txn≤4294967295)=false from decide_eq_false (by omega)];rfl),S2.out.2⟩
  have ht1l:¬4294967295<g.txn:=(by omega);have d1:=qH (show decide (g.txn≤4294967295)=true from decide_eq_true ht1);cases ym
  ·skip;(go_wp2_with fail);go_ret;exact⟨ret_bool (by rw[HY.out,d0.out,d1.out];rfl),S2.out.2⟩
  by_cases he:g.e=0;rotate_left
  ·have hed:=eq_false0 he;have hef:=qH (show(g.e==0)=false from hed);(go_wp2_with fail);go_ret;exact⟨ret_bool (by rw[HY.out,d0.out,d1.out,hef.out];rfl),S2.out.2⟩
  have hed:=eq_true0 he;have hef:=qH (show(g.e==0)=true from hed);by_cases hg1:1≤g.port;rotate_left
  ·skip;have hg1f:=qH (show decide (1≤g.port)=false from decide_eq_false (by omega));(go_wp2_with fail);go_ret;exact⟨ret_bool (by rw[HY.out,d0.out,d1.out,hef.out,hg1f.out];rfl),S2.out.2⟩
  skip;have hg1f:=qH (show decide (1≤g.port)=true from decide_eq_true (by omega));by_cases hg2:g.port≤16;rotate_left
  ·skip;have hg2f:=qH (show decide (g.port≤16)=false from decide_eq_false (by omega));(go_wp2_with fail);go_ret;exact⟨ret_bool (by rw[HY.out,d0.out,d1.out,hef.out,hg1f.out,hg2f.out];rfl),S2.out.2⟩
  skip;have hg2f:=qH (show decide (g.port≤16)=true from decide_eq_true (by omega));have MH:=qH S2.out.1.cellsG.head;have HCh:=qH (rhead_any g.head V);cases hyh:sndB g.head
  ·skip;rw[hyh] at HCh;have HYh:=qH hyh;clear hyh;(go_wp2_with(first|(refine loadMidG rfl 35 _ rfl w.heap.size 35 rfl (hl g.head) _ MH.out Tryz.underlying35 rfl infoHead ?_)|(go_at_call 87;refine HCh.out.mono ?_;rintro e Xh ⟨rfl,hw1⟩;refine Hid.out ?_)));have Sh:=qH (S2.out.below hw1);clear hw1 HCh S2 MH k2 k34 k47;refine qH ?_;(go_wp2_with fail);go_ret;exact⟨ret_bool (by rw[HY.out,d0.out,d1.out,hef.out,hg1f.out,hg2f.out,HYh.out];rfl),Sh.out.2⟩
  rw[hyh] at HCh;have HYh:=qH hyh;clear hyh;(go_wp2_with(first|(refine loadMidG rfl 35 _ rfl w.heap.size 35 rfl (hl g.head) _ MH.out Tryz.underlying35 rfl infoHead ?_)|(go_at_call 87;refine HCh.out.mono ?_;rintro e Xh ⟨rfl,hw1⟩;refine Hid.out ?_)));have Sh:=qH (S2.out.below hw1);clear hw1 HCh S2 MH k2 k34 k47;refine qH ?_;have k47:=Sh.out.1.cellsG.rules;by_cases hl:g.n=0;rotate_left
  ·have hld:=nat0' hl;have hlf:=qH (show decide (g.n=0)=false from decide_eq_false hl);(go_wp2_with fail);go_ret;exact⟨ret_bool (by rw[HY.out,d0.out,d1.out,hef.out,hg1f.out,hg2f.out,HYh.out,hlf.out];rfl),Sh.out.2⟩
  have hld:=nat0 hl;have hlf:=qH (show decide (g.n=0)=true from decide_eq_true hl);(go_wp2_with fail);go_ret;exact⟨ret_bool (by rw[HY.out,d0.out,d1.out,hef.out,hg1f.out,hg2f.out,HYh.out,hlf.out];rfl),Sh.out.2⟩
end Go.Proofs.YtomnpfbebimpkaaGreatDoor
