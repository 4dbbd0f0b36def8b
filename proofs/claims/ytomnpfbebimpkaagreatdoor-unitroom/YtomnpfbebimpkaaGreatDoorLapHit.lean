/-
  The walks of Hit of package lapse and of the reference.
-/
import Derived.Test.YtomnpfbebimpkaaGreatDoorLapTkM
import Derived.Test.YtomnpfbebimpkaaGreatDoorSq
namespace Go.Proofs.YtomnpfbebimpkaaGreatDoor
set_option maxRecDepth 20000
open Go.RowKit
theorem hitL_no {i:Int} {us:List Ru} (h:i<0∨(us.length:Int)≤i):hitL i us=us:=by
 unfold hitL;split
 ·rw[List.modify_eq_self (by omega)]
 ·rfl
theorem hitL_at {i:Nat} {us:List Ru} {u:Ru} (h:us[i]? =some u):hitL (i:Int) us=us.set i (hitU u):=by
 unfold hitL;rw[if_pos (by omega),Int.toNat_natCast];apply List.ext_getElem?;intro j;rw[List.getElem?_modify,List.getElem?_set];by_cases e:i=j
 ·subst e;obtain⟨hl,rfl⟩:=List.getElem?_eq_some_iff.1 h;simp[hl]
 ·simp[e]
theorem map_set_u {L:List Rm} {i:Nat} {r:Rm}:(L.set i r).map (·.u)=(L.map (·.u)).set i r.u:=by rw[List.map_set]
theorem CpS.cell {B g n:Nat} {w W:World} {L:List Rm} (h:CpS B w g n L W) {i m:Nat} {r r':Rm} (hi:L[i]? =some r) (v:Value) (hm:m<32) (he:rcl r'=(rcl r).set m v) (ho:∀b W,OwnA b r W→OwnA b r' W):CpS B w g n (L.set i r') (W.setCell ⟨g,i*32+m,none⟩ v):=by
 have keep:∀x,OwnA (g+1) x W→OwnA (g+1) x (W.setCell ⟨g,i*32+m,none⟩ v):=fun x hx=>KOwns.other hx fun k hk _=>heap_setCell_other _ _ _ _ (by show k≠g;omega);refine⟨h.1.cell okR hi v hm he,fun x hx=>?_,h.2.2.1.setCell h.2.2.2 v (p:=⟨g,i*32+m,none⟩),h.2.2.2⟩;rcases List.mem_or_eq_of_mem_set hx with hx|rfl
 ·exact keep x (h.2.1 x hx)
 ·exact keep _ (ho _ _ (h.2.1 r (List.mem_of_getElem? hi)))
theorem CpS.thereAt {B g n:Nat} {w W:World} {L:List Rm} (h:CpS B w g n L W) {i m:Nat} (hi:i<L.length) (hm:m<32):W.there g (i*32+m) 1:=fun t ht=>by
 have:=h.1.there (i:=i) (by have:=h.1.1;omega) (m+t) (by show m+t<32;omega);rwa [show i*KR.n+(m+t)=i*32+m+t by show i*32+(m+t)=_;omega] at this
set_option maxHeartbeats 1000000 in
theorem hit_any (v:Value) (l:List Rm) (hlen:l.length≤100000) (hw:WfRL l) (n:Int) (w:World) (hl:RLies v l w):Calls Tryz.prog 46 #[v,.int .i64 n] w (TabRet w (hitL n (l.map (·.u)))):=by
 obtain⟨p,cap,rfl⟩:=hl.1.form;have HC:=qH (copy_any (.slice p l.length cap) l hlen hw w hl);have HW:=qH hw;clear hl hw;(go_enter Tryz.func46,Tryz.ntmps46);(go_wp2_with(go_at_call 35;refine HC.out.mono ?_;rintro e w1 ⟨g,L,rfl,hu,hc⟩;refine Hid.out ?_));have HLN0:=qH (show L.length=l.length by have:=congrArg List.length hu;rwa [List.length_map,List.length_map] at this);have hL1:L.length≤100000:=(by have:=HLN0.out;omega);have HLL:=qH hu;have HWL:=qH (WfUL.rl (WfUL.of HW.out) hu);have HS:=qH hc;clear hu hc HC HW;by_cases h0:n<0
 ·have HN:=qH (hitL_no (us:=l.map (·.u)) (i:=n) (.inl h0));have h0':¬0≤n:=(by omega);refine qH ?_;(go_wp2_with fail);go_ret;exact⟨g,L,rfl,by rw[HLL.out,HN.out],HS.out⟩
 ·obtain⟨i,rfl⟩:∃i:Nat,n=(i:Int):=⟨n.toNat,by omega⟩;by_cases hlt:i<L.length
  ·obtain⟨x,hx⟩:=lt_some hlt;have hltI:(i:Int)<(L.length:Int):=(by omega);have h0':(0:Int)≤(i:Int):=(by omega);have HX:=qH hx;have HWx:=qH (HWL.out.at hx);have k29:=(cellsR_mid (HS.out.1.range hx)).hits;have k29':w1.cell? ⟨g,i*32+29,none⟩=some (.int .i64 x.u.hits):=k29;have P1:=qH (plus_any x.u.hits 1 HWx.out.nums.2.2.2.2.1 (by decide) (by decide) w1);have HT:=qH (HS.out.thereAt hlt (m:=29) (by decide));have HS2:=qH (HS.out.cell hx (r':=⟨{ x.u with hits:=moreI x.u.hits 1},x.q,x.n,x.c⟩) (.int .i64 (moreI x.u.hits 1)) (m:=29) (by decide) (rcl_hits x _) (fun _ _ h=>h));clear hx k29;refine qH ?_;(go_upto_region 4 with(first|(go_at_call 81;refine P1.out.mono ?_;rintro e w1 ⟨rfl,rfl⟩)|(refine storeCell rfl 3 _ _ rfl g (i*32+29) (.int .i64 (moreI x.u.hits 1)) rfl rfl rfl HT.out infoInt ?_;refine Hid.out ?_)));clear k29' P1 HT HS;have hx2:(L.set i ⟨{ x.u with hits:=moreI x.u.hits 1},x.q,x.n,x.c⟩)[i]? =some ⟨{ x.u with hits:=moreI x.u.hits 1},x.q,x.n,x.c⟩:=(by simp[hlt]);have HT2:=qH (HS2.out.thereAt (i:=i) (by simpa using hlt) (m:=30) (by decide));have HS3:=qH (HS2.out.cell hx2 (r':=⟨hitU x.u,x.q,x.n,x.c⟩) (.int .i64 0) (m:=30) (by decide) (rcl_quiet ⟨{ x.u with hits:=moreI x.u.hits 1},x.q,x.n,x.c⟩ 0) (fun _ _ h=>h));clear hx2 HS2;generalize w1.setCell ⟨g,i*32+29,none⟩ (.int .i64 (moreI x.u.hits 1))=W2 at*;refine qH ?_;(go_upto_region 5 with(refine storeCell rfl 3 _ _ rfl g (i*32+30) (.int .i64 0) rfl rfl rfl HT2.out infoInt ?_;refine Hid.out ?_));clear HT2;rw[List.set_set] at HS3;generalize W2.setCell ⟨g,i*32+30,none⟩ (.int .i64 0)=W3 at*;have HLN:=qH (show(L.set i ⟨hitU x.u,x.q,x.n,x.c⟩).length=L.length by simp);refine qH ?_;(go_wp2_with fail);go_ret;refine⟨g,L.set i ⟨hitU x.u,x.q,x.n,x.c⟩,by rw[HLN.out];rfl,?_,?_⟩
   ·rw[map_set_u,HLL.out];exact(hitL_at (by rw[←HLL.out,List.getElem?_map,HX.out];rfl)).symm
   ·rw[HLN.out];exact HS3.out
  ·have HN:=qH (hitL_no (us:=l.map (·.u)) (i:=(i:Int)) (.inr (by rw[List.length_map];have:=HLN0.out;omega)));have hltI:¬(i:Int)<(L.length:Int):=(by omega);have h0':(0:Int)≤(i:Int):=(by omega);refine qH ?_;(go_wp2_with fail);go_ret;exact⟨g,L,rfl,by rw[HLL.out,HN.out],HS.out⟩
end Go.Proofs.YtomnpfbebimpkaaGreatDoor
