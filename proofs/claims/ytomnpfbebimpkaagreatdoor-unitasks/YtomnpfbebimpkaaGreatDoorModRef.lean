/-
  The reference's Mod; SameMods of the reference, Same of package mods; the reference's Ints.
-/
import Derived.Test.YtomnpfbebimpkaaGreatDoorPackMod
import Derived.Test.YtomnpfbebimpkaaGreatDoorSq
namespace Go.Proofs.YtomnpfbebimpkaaGreatDoor
set_option maxRecDepth 20000
open Go.RowKit
theorem neT {a k:Int} (h:a≠k):(a != k)=true:=by simpa using h
theorem neF {a k:Int} (h:a=k):(a != k)=false:=by simpa using h
theorem dT {p:Prop} [Decidable p] (h:p):decide p=true:=decide_eq_true h
theorem dF {p:Prop} [Decidable p] (h:¬p):decide p=false:=decide_eq_false h
set_option maxHeartbeats 4000000 in
theorem rmod_any (m:Mm) (hw:WfM m.u) (w:World) (ha:InM m w):Calls Tryz.prog 25 #[.agg (mca m)] w fun e w'=>e= .returned (.bool (sndM m.u))∧Below w.heap.size w w':=by
 have R0:=qH (Blk.new w (mca m) 40);have HE:=qH ((EnvB.start w).alloc (.cells (mca m) 40));have HC:=qH (rcube_any m.u.m hw.m (w.alloc (.cells (mca m) 40)));have HA:=qH (fun(W:World) (hb:EnvB w W)=>racts_any (.slice m.q m.n m.c) m.u.acts (by have:=hw.room;omega) hw.a W (ha.below hb.kept));have M0:=qH R0.out.cellsM.2.1;have k0:=R0.out.cellsM.1;have hnl:=ha.len;obtain⟨y,hy⟩:∃y,y=sndM m.u:=⟨_,rfl⟩;rw[←hy];unfold sndM at hy;rw[←hnl] at hy;have HY:=qH hy;clear ha hw hy hnl;by_cases hg1:1≤m.u.kind;rotate_left
 ·have hlt:m.u.kind<1:=(by omega);(go_enter Tryz.func25,Tryz.ntmps25);(go_wp2_with fail);go_ret;exact⟨ret_bool (by rw[HY.out,dF (show ¬1≤m.u.kind by omega)];rfl),HE.out.kept⟩
 have hge:¬m.u.kind<1:=(by omega);by_cases hg5:m.u.kind≤5;rotate_left
 ·have hlt:5<m.u.kind:=(by omega);(go_enter Tryz.func25,Tryz.ntmps25);(go_wp2_with fail);go_ret;exact⟨ret_bool (by rw[HY.out,dT hg1,dF (show ¬m.u.kind≤5 by omega)];rfl),HE.out.kept⟩
 have hle:¬5<m.u.kind:=(by omega);have HG:=qH (And.intro hg1 hg5);cases hc:csnd m.u.m
 ·rw[hc] at HC;(go_enter Tryz.func25,Tryz.ntmps25);(go_wp2_with(first|(refine loadMidG rfl 37 _ rfl w.heap.size 1 rfl (cl m.u.m) _ M0.out Tryz.underlying37 rfl infoCube ?_)|(go_at_call 50;refine HC.out.mono ?_;rintro e w1 ⟨rfl,hw1⟩)));go_ret;exact⟨ret_bool (by rw[HY.out,dT HG.out.1,dT HG.out.2,hc];rfl),(HE.out.below hw1).kept⟩
 rw[hc] at HC;(go_enter Tryz.func25,Tryz.ntmps25);(go_wp2_with(first|(refine loadMidG rfl 37 _ rfl w.heap.size 1 rfl (cl m.u.m) _ M0.out Tryz.underlying37 rfl infoCube ?_)|(go_at_call 50;refine HC.out.mono ?_;rintro e w1 ⟨rfl,hw1⟩;refine Hid.out ?_)));have R1:=qH (R0.out.below hw1);have HE1:=qH (HE.out.below hw1);have HA1:=qH (HA.out w1 HE1.out);clear hw1 HC R0 HE HA M0 k0;have k26:=R1.out.cellsM.2.2.2.1;cases hs:sndAL m.u.acts
 ·rw[hs] at HA1;refine qH ?_;(go_wp2_with(go_at_call 51;refine HA1.out.mono ?_;rintro e w2 ⟨rfl,hw2⟩));go_ret;exact⟨ret_bool (by rw[HY.out,dT HG.out.1,dT HG.out.2,hc,hs];rfl),(HE1.out.below hw2).kept⟩
 rw[hs] at HA1;refine qH ?_;(go_wp2_with(go_at_call 51;refine HA1.out.mono ?_;rintro e w2 ⟨rfl,hw2⟩;refine Hid.out ?_));have R2:=qH (R1.out.below hw2);have HE2:=qH (HE1.out.below hw2);clear hw2 HA1 R1 HE1 k26;obtain⟨k0,_,k25,k26,k27,k28,k29,k30⟩:=R2.out.cellsM;refine qH ?_;cases h1:upB m.u.p 65535
 ·(go_wp2_with(go_at_call 52;refine(span_any _ _ _).mono ?_;rintro e w3 ⟨rfl,rfl⟩));go_ret;exact⟨ret_bool (by rw[HY.out,dT HG.out.1,dT HG.out.2,hc,hs,h1];rfl),HE2.out.kept⟩
 cases h2:upB m.u.owner 255
 ·(go_wp2_with(go_at_call 52;refine(span_any _ _ _).mono ?_;rintro e w3 ⟨rfl,rfl⟩));go_ret;exact⟨ret_bool (by rw[HY.out,dT HG.out.1,dT HG.out.2,hc,hs,h1,h2];rfl),HE2.out.kept⟩
 cases h3:upB m.u.idle 1048576
 ·(go_wp2_with(go_at_call 52;refine(span_any _ _ _).mono ?_;rintro e w3 ⟨rfl,rfl⟩));go_ret;exact⟨ret_bool (by rw[HY.out,dT HG.out.1,dT HG.out.2,hc,hs,h1,h2,h3];rfl),HE2.out.kept⟩
 cases h4:upB m.u.hard 1048576
 ·(go_wp2_with(go_at_call 52;refine(span_any _ _ _).mono ?_;rintro e w3 ⟨rfl,rfl⟩));go_ret;exact⟨ret_bool (by rw[HY.out,dT HG.out.1,dT HG.out.2,hc,hs,h1,h2,h3,h4];rfl),HE2.out.kept⟩
 (go_upto_region 3 with(go_at_call 52;refine(span_any _ _ _).mono ?_;rintro e w3 ⟨rfl,rfl⟩));have hkk:m.u.kind=1∨m.u.kind=2∨m.u.kind=3∨m.u.kind=4∨m.u.kind=5:=(by have:=HG.out;omega);clear hge hle;rcases hkk with hk|hk|hk|hk|hk
 ·skip;(go_wp2_with fail);go_ret;exact⟨ret_bool (by rw[HY.out,dT HG.out.1,dT HG.out.2,hc,hs,h1,h2,h3,h4,dT (show m.u.kind=1 from by omega),dF (show ¬m.u.kind=2 from by omega),dF (show ¬m.u.kind=3 from by omega),dF (show ¬m.u.kind=5 from by omega)];rfl),HE2.out.kept⟩
 ·skip;by_cases hi:m.u.idle=0;rotate_left
  ·have hid:=neT hi;(go_wp2_with fail);go_ret;exact⟨ret_bool (by rw[HY.out,dT HG.out.1,dT HG.out.2,hc,hs,h1,h2,h3,h4,dF (show ¬m.u.kind=1 from by omega),dF hi];rfl),HE2.out.kept⟩
  by_cases hh:m.u.hard=0;rotate_left
  ·have hhd:=neT hh;(go_wp2_with fail);go_ret;exact⟨ret_bool (by rw[HY.out,dT HG.out.1,dT HG.out.2,hc,hs,h1,h2,h3,h4,dF (show ¬m.u.kind=1 from by omega),dT hi,dF hh];rfl),HE2.out.kept⟩
  cases hq:m.u.chk;rotate_left
  ·rw[hq] at k30;(go_wp2_with fail);go_ret;exact⟨ret_bool (by rw[HY.out,dT HG.out.1,dT HG.out.2,hc,hs,h1,h2,h3,h4,dF (show ¬m.u.kind=1 from by omega),dT hi,dT hh,hq];rfl),HE2.out.kept⟩
  rw[hq] at k30;by_cases hp:m.u.p=0;rotate_left
  ·have hpd:=neT hp;(go_wp2_with fail);go_ret;exact⟨ret_bool (by rw[HY.out,dT HG.out.1,dT HG.out.2,hc,hs,h1,h2,h3,h4,dF (show ¬m.u.kind=1 from by omega),dT hi,dT hh,hq,dT (show m.u.kind=2 from by omega),dF (show ¬m.u.kind=3 from by omega),dF (show ¬m.u.kind=5 from by omega),dF hp];rfl),HE2.out.kept⟩
  (go_wp2_with fail);go_ret;exact⟨ret_bool (by rw[HY.out,dT HG.out.1,dT HG.out.2,hc,hs,h1,h2,h3,h4,dF (show ¬m.u.kind=1 from by omega),dT hi,dT hh,hq,dT (show m.u.kind=2 from by omega),dF (show ¬m.u.kind=3 from by omega),dF (show ¬m.u.kind=5 from by omega),dT hp];rfl),HE2.out.kept⟩
 ·skip;by_cases hi:m.u.idle=0;rotate_left
  ·have hid:=neT hi;(go_wp2_with fail);go_ret;exact⟨ret_bool (by rw[HY.out,dT HG.out.1,dT HG.out.2,hc,hs,h1,h2,h3,h4,dF (show ¬m.u.kind=1 from by omega),dF hi];rfl),HE2.out.kept⟩
  by_cases hh:m.u.hard=0;rotate_left
  ·have hhd:=neT hh;(go_wp2_with fail);go_ret;exact⟨ret_bool (by rw[HY.out,dT HG.out.1,dT HG.out.2,hc,hs,h1,h2,h3,h4,dF (show ¬m.u.kind=1 from by omega),dT hi,dF hh];rfl),HE2.out.kept⟩
  cases hq:m.u.chk;rotate_left
  ·rw[hq] at k30;(go_wp2_with fail);go_ret;exact⟨ret_bool (by rw[HY.out,dT HG.out.1,dT HG.out.2,hc,hs,h1,h2,h3,h4,dF (show ¬m.u.kind=1 from by omega),dT hi,dT hh,hq];rfl),HE2.out.kept⟩
  rw[hq] at k30;by_cases hp:m.u.p=0;rotate_left
  ·have hpd:=neT hp;(go_wp2_with fail);go_ret;exact⟨ret_bool (by rw[HY.out,dT HG.out.1,dT HG.out.2,hc,hs,h1,h2,h3,h4,dF (show ¬m.u.kind=1 from by omega),dT hi,dT hh,hq,dF (show ¬m.u.kind=2 from by omega),dT (show m.u.kind=3 from by omega),dF (show ¬m.u.kind=5 from by omega),dF hp];rfl),HE2.out.kept⟩
  by_cases hz:m.n=0;rotate_left
  ·have hzd:(((m.n:Nat):Int)==0)=false:=(by simpa using hz);(go_wp2_with fail);go_ret;exact⟨ret_bool (by rw[HY.out,dT HG.out.1,dT HG.out.2,hc,hs,h1,h2,h3,h4,dF (show ¬m.u.kind=1 from by omega),dT hi,dT hh,hq,dF (show ¬m.u.kind=2 from by omega),dT (show m.u.kind=3 from by omega),dF (show ¬m.u.kind=5 from by omega),dT hp,dF hz];rfl),HE2.out.kept⟩
  have hzd:(((m.n:Nat):Int)==0)=true:=(by simpa using hz);(go_wp2_with fail);go_ret;exact⟨ret_bool (by rw[HY.out,dT HG.out.1,dT HG.out.2,hc,hs,h1,h2,h3,h4,dF (show ¬m.u.kind=1 from by omega),dT hi,dT hh,hq,dF (show ¬m.u.kind=2 from by omega),dT (show m.u.kind=3 from by omega),dF (show ¬m.u.kind=5 from by omega),dT hp,dT hz];rfl),HE2.out.kept⟩
 ·skip;by_cases hi:m.u.idle=0;rotate_left
  ·have hid:=neT hi;(go_wp2_with fail);go_ret;exact⟨ret_bool (by rw[HY.out,dT HG.out.1,dT HG.out.2,hc,hs,h1,h2,h3,h4,dF (show ¬m.u.kind=1 from by omega),dF hi];rfl),HE2.out.kept⟩
  by_cases hh:m.u.hard=0;rotate_left
  ·have hhd:=neT hh;(go_wp2_with fail);go_ret;exact⟨ret_bool (by rw[HY.out,dT HG.out.1,dT HG.out.2,hc,hs,h1,h2,h3,h4,dF (show ¬m.u.kind=1 from by omega),dT hi,dF hh];rfl),HE2.out.kept⟩
  cases hq:m.u.chk;rotate_left
  ·rw[hq] at k30;(go_wp2_with fail);go_ret;exact⟨ret_bool (by rw[HY.out,dT HG.out.1,dT HG.out.2,hc,hs,h1,h2,h3,h4,dF (show ¬m.u.kind=1 from by omega),dT hi,dT hh,hq];rfl),HE2.out.kept⟩
  rw[hq] at k30;(go_wp2_with fail);go_ret;exact⟨ret_bool (by rw[HY.out,dT HG.out.1,dT HG.out.2,hc,hs,h1,h2,h3,h4,dF (show ¬m.u.kind=1 from by omega),dT hi,dT hh,hq,dF (show ¬m.u.kind=2 from by omega),dF (show ¬m.u.kind=3 from by omega),dF (show ¬m.u.kind=5 from by omega)];rfl),HE2.out.kept⟩
 ·skip;by_cases hi:m.u.idle=0;rotate_left
  ·have hid:=neT hi;(go_wp2_with fail);go_ret;exact⟨ret_bool (by rw[HY.out,dT HG.out.1,dT HG.out.2,hc,hs,h1,h2,h3,h4,dF (show ¬m.u.kind=1 from by omega),dF hi];rfl),HE2.out.kept⟩
  by_cases hh:m.u.hard=0;rotate_left
  ·have hhd:=neT hh;(go_wp2_with fail);go_ret;exact⟨ret_bool (by rw[HY.out,dT HG.out.1,dT HG.out.2,hc,hs,h1,h2,h3,h4,dF (show ¬m.u.kind=1 from by omega),dT hi,dF hh];rfl),HE2.out.kept⟩
  cases hq:m.u.chk;rotate_left
  ·rw[hq] at k30;(go_wp2_with fail);go_ret;exact⟨ret_bool (by rw[HY.out,dT HG.out.1,dT HG.out.2,hc,hs,h1,h2,h3,h4,dF (show ¬m.u.kind=1 from by omega),dT hi,dT hh,hq];rfl),HE2.out.kept⟩
  rw[hq] at k30;by_cases hz:m.n=0;rotate_left
  ·have hzd:(((m.n:Nat):Int)==0)=false:=(by simpa using hz);(go_wp2_with fail);go_ret;exact⟨ret_bool (by rw[HY.out,dT HG.out.1,dT HG.out.2,hc,hs,h1,h2,h3,h4,dF (show ¬m.u.kind=1 from by omega),dT hi,dT hh,hq,dF (show ¬m.u.kind=2 from by omega),dF (show ¬m.u.kind=3 from by omega),dT (show m.u.kind=5 from by omega),dF hz];rfl),HE2.out.kept⟩
  have hzd:(((m.n:Nat):Int)==0)=true:=(by simpa using hz);(go_wp2_with fail);go_ret;exact⟨ret_bool (by rw[HY.out,dT HG.out.1,dT HG.out.2,hc,hs,h1,h2,h3,h4,dF (show ¬m.u.kind=1 from by omega),dT hi,dT hh,hq,dF (show ¬m.u.kind=2 from by omega),dF (show ¬m.u.kind=3 from by omega),dT (show m.u.kind=5 from by omega),dT hz];rfl),HE2.out.kept⟩
end Go.Proofs.YtomnpfbebimpkaaGreatDoor
