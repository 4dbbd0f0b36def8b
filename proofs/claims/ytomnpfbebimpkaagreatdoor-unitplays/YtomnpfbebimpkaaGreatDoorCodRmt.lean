/-
  Msg of the reference: is a message sound?
; the other kinds.
-/
import Derived.Test.YtomnpfbebimpkaaGreatDoorCodRms
import Derived.Deep.DeepCutAuto
import Derived.Test.YtomnpfbebimpkaaGreatDoorSq
namespace Go.Proofs.YtomnpfbebimpkaaGreatDoor
set_option maxRecDepth 20000
open Go.RowKit
set_option maxHeartbeats 4000000 in
set_option maxRecDepth 100000 in
theorem rms_9 (g:Gm) (hk:g.kind=9) (y:Bool) (hY:y=((decide (0≤g.txn)&&decide (g.txn≤4294967295))&&(mEq g.mod.u zMu&&((g.e==0)&&(plainG g&&(decide (g.n=1)&&g.rs.all fun r=>sndR r.u)))))) (hw:WfMs g.u) (w:World) (hi:InG g w):Calls Tryz.prog 60 #[.agg (gca g)] w fun e w'=>e= .returned (.bool y)∧Below w.heap.size w w':=by
 have HI:=qH hi;have HW:=qH hw;have HWR:=qH (show WfRL g.rs from fun r hr=>hw.rules _ (List.mem_map_of_mem hr));have HY:=qH hY;clear hi hw hY;have S0:=qH (show RmS w g (w.alloc (.cells (gca g) 42)) from⟨Blk.new _ _ _,below1 _ _⟩);have HC:=qH (rsamem_z g.mod _ (HI.out.1.below S0.out.2));have M0:=qH S0.out.1.cellsG.mod;(go_enter Tryz.func60,Tryz.ntmps60);(go_upto_region 2 with(first|(refine wpList_load_mid rfl 40 _ rfl w.heap.size 3 rfl (mcl g.mod) _ M0.out Tryz.underlying40 rfl (by rw[mcl_len];exact infoM) ?_)|(go_at_call 59;refine HC.out.mono ?_;rintro e V ⟨rfl,hw1⟩;refine Hid.out ?_)));have S2:=qH (S0.out.below hw1);clear hw1 HC M0 S0;generalize mEq g.mod.u zMu=ym at*;have k34:=S2.out.1.cellsG.port;have MH:=qH S2.out.1.cellsG.head;have heq:=eqlH g.head V;have hgd:=guardHead;refine qH ?_;(go_upto_region 2 with fail);go_cut [4] (fun t W=>t= .bool (plainG g)∧RmS w g W)
 case first=>
  by_cases hp:g.port=0
  ·have hpd:=eq_true0 hp;(go_wp2_with(refine loadMidG rfl 35 _ rfl w.heap.size 35 rfl (hl g.head) _ MH.out Tryz.underlying35 rfl infoHead ?_));go_meet
   case rel=>exact⟨by unfold plainG;rw[hpd,Bool.true_and],S2.out⟩
  ·have hpd:=eq_false0 hp;(go_wp2_with fail);go_meet
   case rel=>exact⟨by unfold plainG;rw[hpd,Bool.false_and],S2.out⟩
 case rest=>
  obtain⟨rfl,hS⟩:=hcut;clear heq hgd MH S2 k34;have S2:=qH hS;clear hS;generalize wc=V at*;generalize plainG g=yp at*;have k0:=S2.out.1.cellsG.kind;have k1:=S2.out.1.cellsG.txn;have k2:=S2.out.1.cellsG.e;have k47:=S2.out.1.cellsG.rules;have k34:=S2.out.1.cellsG.port;rw[hk] at k0;by_cases ht0:0≤g.txn;rotate_left
  ·have ht0l:g.txn<0:=(by omega);(go_wp2_with fail);go_ret;exact⟨ret_bool (by rw[HY.out,show decide (0≤g.txn)=false from decide_eq_false (by omega)];rfl),S2.out.2⟩
  have ht0l:¬g.txn<0:=(by omega);have d0:=qH (show decide (0≤g.txn)=true from decide_eq_true ht0);by_cases ht1:g.txn≤4294967295;rotate_left
  ·have ht1l:4294967295<g.txn:=(by omega);(go_wp2_with fail);go_ret;exact⟨ret_bool (by rw[HY.out,d0.out,show decide (g.txn≤4294967295)=false from decide_eq_false (by omega)];rfl),S2.out.2⟩
  have ht1l:¬4294967295<g.txn:=(by omega);have d1:=qH (show decide (g.txn≤4294967295)=true from decide_eq_true ht1);cases ym
  ·skip;(go_wp2_with fail);go_ret;exact⟨ret_bool (by rw[HY.out,d0.out,d1.out];rfl),S2.out.2⟩
  by_cases he:g.e=0;rotate_left
  ·have hed:=eq_false0 he;have hef:=qH (show(g.e==0)=false from hed);(go_wp2_with fail);go_ret;exact⟨ret_bool (by rw[HY.out,d0.out,d1.out,hef.out];rfl),S2.out.2⟩
  have hed:=eq_true0 he;have hef:=qH (show(g.e==0)=true from hed);cases yp
  ·skip;(go_wp2_with fail);go_ret;exact⟨ret_bool (by rw[HY.out,d0.out,d1.out,hef.out];rfl),S2.out.2⟩
  by_cases hl:g.n=1;rotate_left
  ·have hld:(((g.n:Nat):Int)==1)=false:=(by simp;omega);have hlf:=qH (show decide (g.n=1)=false from decide_eq_false hl);(go_wp2_with fail);go_ret;exact⟨ret_bool (by rw[HY.out,d0.out,d1.out,hef.out,hlf.out];rfl),S2.out.2⟩
  have hld:(((g.n:Nat):Int)==1)=true:=(by rw[hl];rfl);have hlf:=qH (show decide (g.n=1)=true from decide_eq_true hl);obtain⟨x,hx⟩:=List.length_eq_one_iff.1 (show g.rs.length=1 by rw[←HI.out.len];exact hl);have HLx:=qH (show RLies (.slice g.q g.rs.length g.c) g.rs V by rw[←HI.out.len];exact(HI.out.below S2.out.2).2);have hx0:g.rs[0]? =some x:=(by rw[hx];rfl);obtain⟨bb,oo,hq,hrg⟩:=KLies.at HLx.out.1 hx0;rw[hq,hl] at k47;rw[hl] at hld;have HR:=qH (show V.rangeAt bb (oo+0*32) (rcl x) from hrg);have HIA:=qH (HLx.out.2 x (List.mem_of_getElem? hx0));have HWx:=qH (show WfR x.u from HW.out.rules _ (List.mem_map_of_mem (List.mem_of_getElem? hx0)));have HCr:=qH (rrule_b x HWx.out V HIA.out);have hxx:sndR x.u=(g.rs.all fun r=>sndR r.u):=(by rw[hx,List.all_cons,List.all_nil,Bool.and_true]);rw[hxx] at HCr;clear hx hx0 hq hrg hxx HLx HIA HWx hl;cases hyr:g.rs.all fun r=>sndR r.u
  ·skip;rw[hyr] at HCr;have HYr:=qH hyr;clear hyr;(go_wp2_with(first|(refine loadMidG rfl 88 _ rfl bb (oo+0*32) rfl (rcl x) _ HR.out Tryz.underlying88 rfl infoR ?_)|(go_at_call 48;refine HCr.out.mono ?_;rintro e Xr ⟨rfl,hw1⟩;refine Hid.out ?_)));have Sr:=qH (S2.out.below hw1);clear hw1 HCr S2 HR k2 k47;refine qH ?_;(go_wp2_with fail);go_ret;exact⟨ret_bool (by rw[HY.out,d0.out,d1.out,hef.out,hlf.out,HYr.out];rfl),Sr.out.2⟩
  rw[hyr] at HCr;have HYr:=qH hyr;clear hyr;(go_wp2_with(first|(refine loadMidG rfl 88 _ rfl bb (oo+0*32) rfl (rcl x) _ HR.out Tryz.underlying88 rfl infoR ?_)|(go_at_call 48;refine HCr.out.mono ?_;rintro e Xr ⟨rfl,hw1⟩;refine Hid.out ?_)));have Sr:=qH (S2.out.below hw1);clear hw1 HCr S2 HR k2 k47;refine qH ?_;(go_wp2_with fail);go_ret;exact⟨ret_bool (by rw[HY.out,d0.out,d1.out,hef.out,hlf.out,HYr.out];rfl),Sr.out.2⟩
set_option maxHeartbeats 4000000 in
set_option maxRecDepth 100000 in
theorem rms_10 (g:Gm) (hk:g.kind=10) (y:Bool) (hY:y=((decide (0≤g.txn)&&decide (g.txn≤4294967295))&&(mEq g.mod.u zMu&&((g.e==0)&&(plainG g&&(decide (g.n≤65535)&&tabB g.rs)))))) (hw:WfMs g.u) (w:World) (hi:InG g w):Calls Tryz.prog 60 #[.agg (gca g)] w fun e w'=>e= .returned (.bool y)∧Below w.heap.size w w':=by
 have HI:=qH hi;have HW:=qH hw;have HWR:=qH (show WfRL g.rs from fun r hr=>hw.rules _ (List.mem_map_of_mem hr));have HY:=qH hY;clear hi hw hY;have S0:=qH (show RmS w g (w.alloc (.cells (gca g) 42)) from⟨Blk.new _ _ _,below1 _ _⟩);have HC:=qH (rsamem_z g.mod _ (HI.out.1.below S0.out.2));have M0:=qH S0.out.1.cellsG.mod;(go_enter Tryz.func60,Tryz.ntmps60);(go_upto_region 2 with(first|(refine wpList_load_mid rfl 40 _ rfl w.heap.size 3 rfl (mcl g.mod) _ M0.out Tryz.underlying40 rfl (by rw[mcl_len];exact infoM) ?_)|(go_at_call 59;refine HC.out.mono ?_;rintro e V ⟨rfl,hw1⟩;refine Hid.out ?_)));have S2:=qH (S0.out.below hw1);clear hw1 HC M0 S0;generalize mEq g.mod.u zMu=ym at*;have k34:=S2.out.1.cellsG.port;have MH:=qH S2.out.1.cellsG.head;have heq:=eqlH g.head V;have hgd:=guardHead;refine qH ?_;(go_upto_region 2 with fail);go_cut [4] (fun t W=>t= .bool (plainG g)∧RmS w g W)
 case first=>
  by_cases hp:g.port=0
  ·have hpd:=eq_true0 hp;(go_wp2_with(refine loadMidG rfl 35 _ rfl w.heap.size 35 rfl (hl g.head) _ MH.out Tryz.underlying35 rfl infoHead ?_));go_meet
   case rel=>exact⟨by unfold plainG;rw[hpd,Bool.true_and],S2.out⟩
  ·have hpd:=eq_false0 hp;(go_wp2_with fail);go_meet
   case rel=>exact⟨by unfold plainG;rw[hpd,Bool.false_and],S2.out⟩
 case rest=>
  obtain⟨rfl,hS⟩:=hcut;clear heq hgd MH S2 k34;have S2:=qH hS;clear hS;generalize wc=V at*;generalize plainG g=yp at*;have k0:=S2.out.1.cellsG.kind;have k1:=S2.out.1.cellsG.txn;have k2:=S2.out.1.cellsG.e;have k47:=S2.out.1.cellsG.rules;have k34:=S2.out.1.cellsG.port;rw[hk] at k0;by_cases ht0:0≤g.txn;rotate_left
  ·have ht0l:g.txn<0:=(by omega);(go_wp2_with fail);go_ret;exact⟨ret_bool (by rw[HY.out,show decide (0≤g.txn)=false from decide_eq_false (by omega)];rfl),S2.out.2⟩
  have ht0l:¬g.txn<0:=(by omega);have d0:=qH (show decide (0≤g.txn)=true from decide_eq_true ht0);by_cases ht1:g.txn≤4294967295;rotate_left
  ·have ht1l:4294967295<g.txn:=(by omega);(go_wp2_with fail);go_ret;exact⟨ret_bool (by rw[HY.out,d0.out,show decide (g.txn≤4294967295)=false from decide_eq_false (by omega)];rfl),S2.out.2⟩
  have ht1l:¬4294967295<g.txn:=(by omega);have d1:=qH (show decide (g.txn≤4294967295)=true from decide_eq_true ht1);cases ym
  ·skip;(go_wp2_with fail);go_ret;exact⟨ret_bool (by rw[HY.out,d0.out,d1.out];rfl),S2.out.2⟩
  by_cases he:g.e=0;rotate_left
  ·have hed:=eq_false0 he;have hef:=qH (show(g.e==0)=false from hed);(go_wp2_with fail);go_ret;exact⟨ret_bool (by rw[HY.out,d0.out,d1.out,hef.out];rfl),S2.out.2⟩
  have hed:=eq_true0 he;have hef:=qH (show(g.e==0)=true from hed);cases yp
  ·skip;(go_wp2_with fail);go_ret;exact⟨ret_bool (by rw[HY.out,d0.out,d1.out,hef.out];rfl),S2.out.2⟩
  by_cases hl:g.n≤65535;rotate_left
  ·have hld:¬((g.n:Nat):Int)≤65535:=(by omega);have hlf:=qH (show decide (g.n≤65535)=false from decide_eq_false (by omega));(go_wp2_with fail);go_ret;exact⟨ret_bool (by rw[HY.out,d0.out,d1.out,hef.out,hlf.out];rfl),S2.out.2⟩
  have hld:((g.n:Nat):Int)≤65535:=(by omega);have hlf:=qH (show decide (g.n≤65535)=true from decide_eq_true (by omega));have HCt:=qH (rtable_b (.slice g.q g.n g.c) g.rs (by rw[←HI.out.len];omega) HWR.out V (HI.out.below S2.out.2).2);cases hyt:tabB g.rs
  ·skip;rw[hyt] at HCt;have HYt:=qH hyt;clear hyt;(go_wp2_with(go_at_call 22;refine HCt.out.mono ?_;rintro e Xt ⟨rfl,hw1⟩;refine Hid.out ?_));have St:=qH (S2.out.below hw1);clear hw1 HCt S2 k2 k47;refine qH ?_;(go_wp2_with fail);go_ret;exact⟨ret_bool (by rw[HY.out,d0.out,d1.out,hef.out,hlf.out,HYt.out];rfl),St.out.2⟩
  rw[hyt] at HCt;have HYt:=qH hyt;clear hyt;(go_wp2_with(go_at_call 22;refine HCt.out.mono ?_;rintro e Xt ⟨rfl,hw1⟩;refine Hid.out ?_));have St:=qH (S2.out.below hw1);clear hw1 HCt S2 k2 k47;refine qH ?_;(go_wp2_with fail);go_ret;exact⟨ret_bool (by rw[HY.out,d0.out,d1.out,hef.out,hlf.out,HYt.out];rfl),St.out.2⟩
set_option maxHeartbeats 4000000 in
set_option maxRecDepth 100000 in
theorem rms_0 (g:Gm) (hn:g.kind≠1∧g.kind≠6∧g.kind≠8∧g.kind≠9∧g.kind≠10) (y:Bool) (hY:y=((decide (0≤g.txn)&&decide (g.txn≤4294967295))&&(mEq g.mod.u zMu&&((g.e==0)&&(plainG g&&(decide (g.n=0)&&(decide (2≤g.kind)&&decide (g.kind≤7)))))))) (hw:WfMs g.u) (w:World) (hi:InG g w):Calls Tryz.prog 60 #[.agg (gca g)] w fun e w'=>e= .returned (.bool y)∧Below w.heap.size w w':=by
 have HI:=qH hi;have HW:=qH hw;have HWR:=qH (show WfRL g.rs from fun r hr=>hw.rules _ (List.mem_map_of_mem hr));have HY:=qH hY;clear hi hw hY;have S0:=qH (show RmS w g (w.alloc (.cells (gca g) 42)) from⟨Blk.new _ _ _,below1 _ _⟩);have HC:=qH (rsamem_z g.mod _ (HI.out.1.below S0.out.2));have M0:=qH S0.out.1.cellsG.mod;(go_enter Tryz.func60,Tryz.ntmps60);(go_upto_region 2 with(first|(refine wpList_load_mid rfl 40 _ rfl w.heap.size 3 rfl (mcl g.mod) _ M0.out Tryz.underlying40 rfl (by rw[mcl_len];exact infoM) ?_)|(go_at_call 59;refine HC.out.mono ?_;rintro e V ⟨rfl,hw1⟩;refine Hid.out ?_)));have S2:=qH (S0.out.below hw1);clear hw1 HC M0 S0;generalize mEq g.mod.u zMu=ym at*;have k34:=S2.out.1.cellsG.port;have MH:=qH S2.out.1.cellsG.head;have heq:=eqlH g.head V;have hgd:=guardHead;refine qH ?_;(go_upto_region 2 with fail);go_cut [4] (fun t W=>t= .bool (plainG g)∧RmS w g W)
 case first=>
  by_cases hp:g.port=0
  ·have hpd:=eq_true0 hp;(go_wp2_with(refine loadMidG rfl 35 _ rfl w.heap.size 35 rfl (hl g.head) _ MH.out Tryz.underlying35 rfl infoHead ?_));go_meet
   case rel=>exact⟨by unfold plainG;rw[hpd,Bool.true_and],S2.out⟩
  ·have hpd:=eq_false0 hp;(go_wp2_with fail);go_meet
   case rel=>exact⟨by unfold plainG;rw[hpd,Bool.false_and],S2.out⟩
 case rest=>
  obtain⟨rfl,hS⟩:=hcut;clear heq hgd MH S2 k34;have S2:=qH hS;clear hS;generalize wc=V at*;generalize plainG g=yp at*;have k0:=S2.out.1.cellsG.kind;have k1:=S2.out.1.cellsG.txn;have k2:=S2.out.1.cellsG.e;have k47:=S2.out.1.cellsG.rules;have k34:=S2.out.1.cellsG.port;obtain⟨n1,n6,n8,n9,n10⟩:=hn;have f1:=eq_false0 n1;have f6:=eq_false0 n6;have f8:=eq_false0 n8;have f9:=eq_false0 n9;have f10:=eq_false0 n10;by_cases ht0:0≤g.txn;rotate_left
  ·have ht0l:g.txn<0:=(by omega);(go_wp2_with fail);go_ret;exact⟨ret_bool (by rw[HY.out,show decide (0≤g.txn)=false from decide_eq_false (by omega)];rfl),S2.out.2⟩
  have ht0l:¬g.txn<0:=(by omega);have d0:=qH (show decide (0≤g.txn)=true from decide_eq_true ht0);by_cases ht1:g.txn≤4294967295;rotate_left
  ·have ht1l:4294967295<g.txn:=(by omega);(go_wp2_with fail);go_ret;exact⟨ret_bool (by rw[HY.out,d0.out,show decide (g.txn≤4294967295)=false from decide_eq_false (by omega)];rfl),S2.out.2⟩
  have ht1l:¬4294967295<g.txn:=(by omega);have d1:=qH (show decide (g.txn≤4294967295)=true from decide_eq_true ht1);cases ym
  ·skip;(go_wp2_with fail);go_ret;exact⟨ret_bool (by rw[HY.out,d0.out,d1.out];rfl),S2.out.2⟩
  by_cases he:g.e=0;rotate_left
  ·have hed:=eq_false0 he;have hef:=qH (show(g.e==0)=false from hed);(go_wp2_with fail);go_ret;exact⟨ret_bool (by rw[HY.out,d0.out,d1.out,hef.out];rfl),S2.out.2⟩
  have hed:=eq_true0 he;have hef:=qH (show(g.e==0)=true from hed);cases yp
  ·skip;(go_wp2_with fail);go_ret;exact⟨ret_bool (by rw[HY.out,d0.out,d1.out,hef.out];rfl),S2.out.2⟩
  by_cases hl:g.n=0;rotate_left
  ·have hld:=nat0' hl;have hlf:=qH (show decide (g.n=0)=false from decide_eq_false hl);(go_wp2_with fail);go_ret;exact⟨ret_bool (by rw[HY.out,d0.out,d1.out,hef.out,hlf.out];rfl),S2.out.2⟩
  have hld:=nat0 hl;have hlf:=qH (show decide (g.n=0)=true from decide_eq_true hl);by_cases hg1:2≤g.kind;rotate_left
  ·skip;have hg1f:=qH (show decide (2≤g.kind)=false from decide_eq_false (by omega));(go_wp2_with fail);go_ret;exact⟨ret_bool (by rw[HY.out,d0.out,d1.out,hef.out,hlf.out,hg1f.out];rfl),S2.out.2⟩
  skip;have hg1f:=qH (show decide (2≤g.kind)=true from decide_eq_true (by omega));by_cases hg2:g.kind≤7;rotate_left
  ·skip;have hg2f:=qH (show decide (g.kind≤7)=false from decide_eq_false (by omega));(go_wp2_with fail);go_ret;exact⟨ret_bool (by rw[HY.out,d0.out,d1.out,hef.out,hlf.out,hg1f.out,hg2f.out];rfl),S2.out.2⟩
  skip;have hg2f:=qH (show decide (g.kind≤7)=true from decide_eq_true (by omega));(go_wp2_with fail);go_ret;exact⟨ret_bool (by rw[HY.out,d0.out,d1.out,hef.out,hlf.out,hg1f.out,hg2f.out];rfl),S2.out.2⟩
theorem rmsg_any (g:Gm) (hw:WfMs g.u) (w:World) (hi:InG g w):Calls Tryz.prog 60 #[.agg (gca g)] w fun e w'=>e= .returned (.bool (sndMs g.u))∧Below w.heap.size w w':=by
 have hn:=hi.len;have hlen:g.u.rules.length=g.n:=(by rw[hn];exact List.length_map ..);have hp:plainB g.u=plainG g:=rfl;have ek:g.u.kind=g.kind:=rfl;have et:g.u.txn=g.txn:=rfl;have ee:g.u.e=g.e:=rfl;have em:g.u.mod=g.mod.u:=rfl;have ept:g.u.port=g.port:=rfl;have eh:g.u.head=g.head:=rfl;have ea:g.u.rules.all sndR=g.rs.all fun r=>sndR r.u:=all_map _;have eT:tabU g.u.rules=tabB g.rs:=(tabB_tabU _).symm;by_cases h1:g.kind=1
 ·exact rms_1 g h1 _ (by unfold sndMs;rw[ek,if_pos h1,hlen,hp,et,ee,em]) hw w hi
 by_cases h6:g.kind=6
 ·exact rms_6 g h6 _ (by unfold sndMs;rw[ek,if_neg h1,if_pos h6,hlen,hp,et,ee,em,Bool.and_assoc (decide (1≤g.e))]) hw w hi
 by_cases h8:g.kind=8
 ·exact rms_8 g h8 _ (by unfold sndMs;rw[ek,if_neg h1,if_neg h6,if_pos h8,hlen,et,ee,em,ept,eh,Bool.and_assoc (decide (1≤g.port))]) hw w hi
 by_cases h9:g.kind=9
 ·exact rms_9 g h9 _ (by unfold sndMs;rw[ek,if_neg h1,if_neg h6,if_neg h8,if_pos h9,hlen,hp,et,ee,em,ea]) hw w hi
 by_cases h10:g.kind=10
 ·exact rms_10 g h10 _ (by unfold sndMs;rw[ek,if_neg h1,if_neg h6,if_neg h8,if_neg h9,if_pos h10,hlen,hp,et,ee,em,eT]) hw w hi
 ·exact rms_0 g ⟨h1,h6,h8,h9,h10⟩ _ (by unfold sndMs;rw[ek,if_neg h1,if_neg h6,if_neg h8,if_neg h9,if_neg h10,hlen,hp,et,ee,em]) hw w hi
end Go.Proofs.YtomnpfbebimpkaaGreatDoor
