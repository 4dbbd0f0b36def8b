/-
  play: the same comes to a unit and to the reference's.
-/
import Derived.Test.YtomnpfbebimpkaaGreatDoorUreTake
import Derived.Test.YtomnpfbebimpkaaGreatDoorUreMod
import Derived.Test.YtomnpfbebimpkaaGreatDoorSq
import Derived.Test.YtomnpfbebimpkaaGreatDoorUreSms
import Derived.Test.YtomnpfbebimpkaaGreatDoorUreTk
import Derived.Test.YtomnpfbebimpkaaGreatDoorPackUniP
import Derived.Test.YtomnpfbebimpkaaGreatDoorUrePkt
import Derived.Test.YtomnpfbebimpkaaGreatDoorPackUniS
import Derived.Test.YtomnpfbebimpkaaGreatDoorCodArg
namespace Go.Proofs.YtomnpfbebimpkaaGreatDoor
set_option maxRecDepth 20000
open Go.RowKit
def GonZ (B : Nat) (w0 : World) (a : Gm) (W : World) : Prop := ∃ q c r, a = gonG q c r ∧ KOwns KR B (.slice q 1 c) [r] W ∧ InA r w0
section
variable {B b : Nat} {w0 W W' : World} {a : Gm} {v : Value} {l : List Gm}
theorem GonZ.below (h:GonZ B w0 a W) (hb:Below W.heap.size W W'):GonZ B w0 a W':=by
 obtain⟨q,c,r,e,ho,hi⟩:=h;exact⟨q,c,r,e,ho.below hb,hi⟩
theorem GonZ.grown (h:GonZ B w0 a W) (ho:KOwns KG b v l W) (hg:W.grownBy W' v.ownBlock):GonZ B w0 a W':=by
 obtain⟨q,c,r,e,h1,hi⟩:=h;exact⟨q,c,r,e,KOwns.apartT ne_RG h1 ho hg,hi⟩
theorem GonZ.inG (h:GonZ B w0 a W) (hb:Below w0.heap.size w0 W):InG a W:=by
 obtain⟨q,c,r,rfl,h1,hi⟩:=h;exact⟨zM_in _,h1.lies okR,fun y hy=>by have hy':y=r:=(by simpa [gonG] using hy);subst hy';exact hi.below hb⟩
end
def TckZ (z : Zu) (n : Int) (w0 w : World) (e : Ending) (w' : World) : Prop :=
  ∃ (z' : Zu) (v : Value) (gs : List Gm), e = .returned v ∧ gs.map (·.u) = tickA z.un n ∧ AnsZ v gs w' ∧ z'.un = tickS z.un n ∧ RefA w0 z' w' ∧ z'.p = z.p ∧ ZFr z z' w w'
set_option maxHeartbeats 4000000 in
theorem rtick_z (z:Zu) (k:Nat) (hF:FitZ k z) (n:Int) (w0 w:World) (hZ:RefA w0 z w):Calls Tryz.prog 33 #[.pointer (some ⟨z.p,0,none⟩),.int .i64 n] w (TckZ z n w0 w):=by
 obtain⟨pb,cb,hvb⟩:=hZ.base.form;have HVB:=qH hvb;have HZ:=qH hZ;have HLB:=qH (show z.L.length≤9000 by have:=hF.len;omega);have c1:w.cell? ⟨z.p,1,none⟩=some (.slice pb z.L.length cb):=(by rw[←HVB.out];exact hZ.vb_);have HTK:=qH (rtick_own (.slice pb z.L.length cb) z.L (by have:=HLB.out;omega) hF.wfR n w (by rw[←HVB.out];exact hZ.lies));clear hZ hvb hF;(go_enter Tryz.func33,Tryz.ntmps33);(go_upto_region 2 with(go_at_call 65;refine HTK.out.mono ?_;rintro e w1 ⟨va,vb,LA,LB,rfl,hua,hub,htk⟩;refine Hid.out ?_));have HUA:=qH hua;have HUB:=qH hub;have HOA:=qH (show KOwns KR w0.heap.size va LA w1∧∀y∈LA,InA y w0 from⟨htk.a.mono HZ.out.bel.size,fun y hy=>htk.pa y hy w0 HZ.out.acts⟩);have HOB:=qH (show KOwns KR w.heap.size vb LB w1∧∀y∈LB,InA y w0 from⟨htk.b,fun y hy=>htk.pb y hy w0 HZ.out.acts⟩);have HZ1:=qH (HZ.out.below htk.kept);have HB1:=qH htk.kept;have HONE:=qH (show va.oneCell'=true by obtain⟨q,cc,e⟩:=htk.a.form;rw[e];rfl);have HTH:=qH (show w1.there z.p 1 1 from HZ1.out.box.there (by show 2≤4;decide));have HLN:=qH (show LB.length≤9000 by have h1:=congrArg List.length hua;have h2:=congrArg List.length hub;have h3:=left_gone_len (clampN n) (z.L.map (·.u));rw[List.length_map] at h1 h2 h3;have:=HLB.out;omega);clear hua hub htk HTK HZ c1 HLB;refine qH ?_;(go_upto_region 3 with(first|(refine storeCell rfl 27 _ _ rfl z.p 1 va rfl rfl HONE.out HTH.out infoSR ?_;refine Hid.out ?_)));have HFW:=qH (Fr.cell w1 ⟨z.p,1,none⟩ va (M:=[z.p]) (by simp));have HX:=qH (show RefA w0 ⟨z.p,z.room,va,LA,z.vo,z.ts,z.fail⟩ (w1.setCell ⟨z.p,1,none⟩ va) from HZ1.out.put rfl (HZ1.out.box.one (k:=1) va) HFW.out HOA.out.1 HOA.out.2 HZ1.out.opn HZ1.out.txs HZ1.out.mods);have HUF:=qH (show ZFr z ⟨z.p,z.room,va,LA,z.vo,z.ts,z.fail⟩ w (w1.setCell ⟨z.p,1,none⟩ va) from ZFr.put HB1.out HFW.out fun g hg=> .inl hg);have HGO:=qH (HFW.out.ownsT HZ1.out.mutP HOB.out.1 notR);have HGI:=qH HOB.out.2;have HWS:=qH (show w.heap.size≤(w1.setCell ⟨z.p,1,none⟩ va).heap.size from Nat.le_trans HB1.out.size HFW.out.size);clear HTH HFW HZ1 HOA HOB HB1 HONE;generalize w1.setCell ⟨z.p,1,none⟩ va=w2 at*;obtain⟨pg,cg,eg⟩:=HGO.out.form;subst eg;obtain⟨m,hm⟩:∃m,m=LB.length:=⟨_,rfl⟩;have HM:=qH hm;rw[←hm] at HGO HLN ⊢;have hmB:m≤9000:=HLN.out;clear hm HLN;refine qH ?_;(go_wp2_with fail);go_loopg [7,8] m (fun q s7 s8 wr=>∃(r:Nat) (gs:List Gm),r+q=m∧s8= .int .i64 r∧gs.map (·.u)=tkMs ((LB.take r).map (·.u))∧KOwns KG w2.heap.size s7 gs wr∧(∀a∈gs,GonZ w.heap.size w0 a wr)∧Below w2.heap.size w2 wr)
 case atStart=>exact⟨0,[],by omega,rfl,rfl,KOwns.nil _ _,fun a ha=>(by cases ha),Below.refl _ _⟩
 case round=>
  obtain⟨r,gs,hr,rfl,hgs,hko,hog,hb⟩:=hrel;have HGS:=qH hgs;have HKO:=qH hko;have HOG:=qH hog;have HB:=qH hb;have hgl:gs.length≤9000:=(by have h1:=congrArg List.length hgs;unfold tkMs at h1;rw[List.length_map,List.length_map,List.length_map,List.length_take] at h1;omega);obtain⟨p7,c7,e7⟩:=hko.form;subst e7;clear hgs hko hog hb;by_cases hlt:r<m
  ·have hltI:(r:Int)<(m:Int):=(by omega);obtain⟨y,hy⟩:=lt_some (l:=LB) (i:=r) (by have:=HM.out;omega);obtain⟨bb,o,rfl,hrg⟩:=((HGO.out.below HB.out).lies okR).at hy;have HR:=qH hrg;have HY:=qH (HGI.out y (List.mem_of_getElem? hy));have HTKE:=qH (show tkMs ((LB.take (r+1)).map (·.u))=tkMs ((LB.take r).map (·.u))++[⟨9,0,0,zMu,0,zHd,[y.u]⟩] by rw[List.take_add_one,hy,List.map_append];unfold tkMs;rw[List.map_append];rfl);clear hrg hy;have R1:=qH (Blk.new wr (rca y) KR.T);have HB3:=qH (below1 wr (.cells (rca y) KR.T));have R2:=qH (Blk.new (wr.alloc (.cells (rca y) KR.T)) (gca (gonG (some ⟨wr.heap.size,0,none⟩) 1 y)) KG.T);have HB4:=qH (below1 (wr.alloc (.cells (rca y) KR.T)) (.cells (gca (gonG (some ⟨wr.heap.size,0,none⟩) 1 y)) KG.T));have HK2:=qH ((HKO.out.below HB3.out).below HB4.out);have HLE:=qH (show w2.heap.size≤((wr.alloc (.cells (rca y) KR.T)).alloc (.cells (gca (gonG (some ⟨wr.heap.size,0,none⟩) 1 y)) KG.T)).heap.size from Nat.le_trans HB.out.size (Nat.le_trans HB3.out.size HB4.out.size));have HLG:=qH (show gs.length+[gonG (some ⟨wr.heap.size,0,none⟩) 1 y].length≤1000000 by rw[List.length_singleton];omega);(go_wp2_with(first|(refine wpList_load_mid rfl 88 _ rfl bb (o+r*32) rfl (rcl y) _ HR.out Tryz.underlying88 rfl infoR ?_)|(refine kbuildOne KR okR _ zeroR rfl _ rfl (rca y) rfl (by decide) (fillOne y) ?_)|(refine buildGon rfl _ _ rfl (some ⟨wr.heap.size,0,none⟩) 1 y rfl rfl ?_)|(refine kbuildOne KG okG _ zeroG rfl _ rfl (gca (gonG (some ⟨wr.heap.size,0,none⟩) 1 y)) rfl (by decide) (fillG1 _) ?_)|(refine kappend KG okG rfl _ _ rfl w2.heap.size _ gs [gonG (some ⟨wr.heap.size,0,none⟩) 1 y] rfl HK2.out _ rfl ((oneG1 R2.out (Nat.le_refl _)).lies okG) HLE.out HLG.out (fun v5 w5 ho5 hg5=>?_);refine Hid.out ?_)));have HB34:=qH (HB3.out.trans (HB4.out.mono HB3.out.size));have HO5:=qH ho5;have HB5:=qH (kbelowOwn (HB.out.trans (HB34.out.mono HB.out.size)) HK2.out (Nat.le_refl _) hg5);have HG5:=qH (show ∀a∈gs++[gonG (some ⟨wr.heap.size,0,none⟩) 1 y],GonZ w.heap.size w0 a w5 from fun a ha=>by
    rcases List.mem_append.1 ha with q|q
    ·exact((HOG.out a q).below HB34.out).grown HK2.out hg5
    ·simp only[List.mem_cons,List.not_mem_nil,or_false] at q;subst q;exact GonZ.grown ⟨_,_,_,rfl,oneR1 (R1.out.below HB4.out) (by have:=HB.out.size;have:=HWS.out;omega),HY.out⟩ HK2.out hg5)
   clear ho5 hg5 HB34 R1 R2 HB3 HB4 HK2 HLE HLG HB HY HR HKO HOG;refine qH ?_;(go_wp2_with fail);go_roundg (m - (r+1))
   case measure=>omega
   case rel=>exact⟨r+1,_,by omega,by go_num,by rw[List.map_append,HGS.out,HTKE.out];rfl,HO5.out,HG5.out,HB5.out⟩
  ·have hltI:¬(r:Int)<(m:Int):=(by omega);have HFN:=qH (show gs.map (·.u)=tkMs (LB.map (·.u)) by rw[HGS.out,List.take_of_length_le (by have:=HM.out;omega)]);have HXE:=qH (HX.out.below HB.out);(go_wp2_with fail);go_ret;refine⟨_,_,gs,rfl,?_,⟨HKO.out.lies okG,fun a ha=>(HOG.out a ha).inG HXE.out.bel⟩,?_,HXE.out,rfl,HUF.out.trans (ZFr.of _ HB.out)⟩
   ·rw[HFN.out,HUB.out];rfl
   ·show(⟨z.room,LA.map (·.u),z.ts.map (·.tx),z.fail⟩:Un)=tickS z.un n;rw[HUA.out];rfl
end Go.Proofs.YtomnpfbebimpkaaGreatDoor

namespace Go.Proofs.YtomnpfbebimpkaaGreatDoor
set_option maxRecDepth 20000
open Go.RowKit
theorem sendFields:∃f g:Field,(Tryz.prog.fieldsOf 118).toList=[f,g]∧f.name≠ "_" ∧f.type=3∧f.offset=0∧g.name≠ "_" ∧g.type=35∧g.offset=1:=⟨_,_,rfl,by decide,rfl,rfl,by decide,rfl,rfl⟩
theorem partS0 (a:Sn) (w:World):(part 3 (sna a) 0).run Tryz.prog w= .ok (.int .i64 a.p) w:=by kernel_rfl
theorem partS1 (a:Sn) (w:World):(part 35 (sna a) 1).run Tryz.prog w= .ok (.agg (hc a.h)) w:=by kernel_rfl
def sEq (a b : Sn) : Bool := a.p == b.p && hEq a.h b.h
theorem eqlHc (d:Nat) (a b:Nat→Int) (w:World):(Op.equalIn (d+2) 35 (.agg (hc a)) (.agg (hc b))).run Tryz.prog w= .ok (hEq a b) w:=by
 obtain⟨i,hi⟩:=infoU64;rw[run_equalIn_array w (d+1) (hc a) (hc b) Tryz.underlying35 hi,cU64];exact eqItems_head a b d w (List.range 12) fun i hi=>by simpa using hi
theorem eql_send (a b:Sn) (w:World):(Op.equalIn 10000 118 (.agg (sna a)) (.agg (sna b))).run Tryz.prog w= .ok (sEq a b) w:=by
 obtain⟨f,g,hf,f1,f2,f3,g1,g2,g3⟩:=sendFields;rw[run_equalIn_struct w 9999 118 (sna a) (sna b) (by kernel_rfl) (by kernel_rfl),hf];have hI:∀x y:Int,(Op.equalIn 9999 3 (.int .i64 x) (.int .i64 y)).run Tryz.prog w= .ok (x==y) w:=fun x y=>run_equalIn_int w 9998 3 .i64 .i64 x y Tryz.underlying3;unfold sEq;simp only[Op.eqFields,f1,f2,f3,g1,g2,g3,ne_eq,not_false_eq_true,if_true,Sem.run_bind,partS0,Result.andThen_ok,hI];cases e1:a.p==b.p
 ·simp
 ·simp only[Bool.not_true,Bool.false_eq_true,if_false,Sem.run_bind,partS1,Result.andThen_ok,eqlHc 9997];cases e2:hEq a.h b.h<;>simp
theorem guardSend:Tryz.prog.eqGuardType Tryz.prog.depth 118=false:=by kernel_rfl
theorem sEq_refl (a:Sn):sEq a a=true:=by simp[sEq,hEq_refl]
def SndsRet (us vs : List Sn) (w : World) (e : Ending) (w' : World) : Prop := ∃ y, e = .returned (.bool y) ∧ (us = vs → y = true) ∧ Below w.heap.size w w'
def TwS (w : World) (va vb : Value) (l k : List Sn) (W : World) : Prop := KLies KS va l W ∧ KLies KS vb k W ∧ Below w.heap.size w W
theorem TwS.below {w W W':World} {va vb:Value} {l k:List Sn} (hb:Below W.heap.size W W') (h:TwS w va vb l k W):TwS w va vb l k W':=⟨h.1.below okS hb,h.2.1.below okS hb,h.2.2.trans (hb.mono h.2.2.size)⟩
set_option maxHeartbeats 4000000 in
set_option maxRecDepth 100000 in
theorem rsends_any (va vb:Value) (l k:List Sn) (h9:l.length≤140737488355328) (w:World) (ka:KLies KS va l w) (kb:KLies KS vb k w):Calls Tryz.prog 32 #[va,vb] w (SndsRet l k w):=by
 obtain⟨pa,ca,rfl⟩:=ka.form;obtain⟨pb,cb,rfl⟩:=kb.form;have HS0:=qH (show TwS w (.slice pa l.length ca) (.slice pb k.length cb) l k w from⟨ka,kb,Below.refl _ _⟩);clear ka kb;by_cases hln:l.length=k.length;rotate_left
 ·have n1:((l.length:Int) != (k.length:Int))=true:=(by simp;omega);have n2:((l.length:Int)==(k.length:Int))=false:=(by simp;omega);have HNL:=qH hln;clear hln;(go_enter Tryz.func32,Tryz.ntmps32);(go_wp2_with fail);go_ret;exact⟨false,rfl,fun he=>absurd (congrArg List.length he) HNL.out,Below.refl _ _⟩
 rw[←hln] at HS0 ⊢;obtain⟨n,hn⟩:∃n,n=l.length:=⟨_,rfl⟩;have HN:=qH (show l.length=n∧k.length=n from⟨hn.symm,by omega⟩);rw[←hn] at HS0 h9 ⊢;clear hln hn;(go_enter Tryz.func32,Tryz.ntmps32);(go_wp2_with fail);go_loopg [5] n (fun q i wr=>∃r:Nat,r+q=n∧i= .int .i64 r∧TwS w (.slice pa n ca) (.slice pb n cb) l k wr)
 case atStart=>exact⟨0,by omega,rfl,HS0.out⟩
 case round=>
  clear HS0;obtain⟨r,hr,rfl,hk⟩:=hrel;have HS2:=qH hk;clear hk;by_cases hlt:r<n
  ·have hltI:(r:Int)<(n:Int):=(by omega);obtain⟨c,hc'⟩:=lt_some (l:=l) (i:=r) (by have:=HN.out;omega);obtain⟨d,hd'⟩:=lt_some (l:=k) (i:=r) (by have:=HN.out;omega);obtain⟨b1,o1,rfl,_⟩:=HS2.out.1.at hc';obtain⟨b2,o2,rfl,_⟩:=HS2.out.2.1.at hd';have HC:=qH (And.intro hc' hd');obtain⟨x,hx⟩:∃x,x=sEq c d:=⟨_,rfl⟩;have HZ:=qH (show l=k→x=true from fun e=>by rw[e,hd'] at hc';rw[hx,Option.some.inj hc'];exact sEq_refl _);clear hc' hd';have heq:∀w,(Op.equalIn 10000 118 (.agg (snl c).toArray) (.agg (snl d).toArray)).run Tryz.prog w= .ok x w:=fun w=>(by rw[hx];exact eql_send c d w);have hgd:=guardSend;clear hx;(go_upto_region 6 with fail);refine wp_region_held_drew (S:=TwS w (.slice (some ⟨b1,o1,none⟩) n ca) (.slice (some ⟨b2,o2,none⟩) n cb) l k) (by kernel_rfl) (TwS.below (Below.refl _ _).drew HS2.out) (fun hS=>?_);clear HS2;generalize wr.drew=W at*;refine sR 0 hS ?_;refine sR 1 hS ?_;refine sR 2 hS ?_;refine sV 3 rfl (fun w hSw=>execRow rfl b1 (o1+r*13) rfl (snl c) _ (hSw.1.at' HC.out.1) Tryz.underlying118 rfl infoS) hS ?_;refine sR 4 hS ?_;refine sR 5 hS ?_;refine sR 6 hS ?_;refine sV 7 rfl (fun w hSw=>execRow rfl b2 (o2+r*13) rfl (snl d) _ (hSw.2.1.at' HC.out.2) Tryz.underlying118 rfl infoS) hS ?_;refine sR 8 hS ?_;refine sD ?_;have HS3:=qH hS;clear hS heq hgd;cases x
   ·(go_wp2_with fail);go_ret;exact⟨false,rfl,fun he=>absurd (HZ.out he) Bool.false_ne_true,HS3.out.2.2⟩
   ·(go_wp2_with fail);go_roundg (n - (r+1))
    case measure=>omega
    case rel=>exact⟨r+1,by omega,by go_num,HS3.out⟩
  ·have hltI:¬(r:Int)<(n:Int):=(by omega);(go_wp2_with fail);go_ret;exact⟨true,rfl,fun _=>rfl,HS2.out.2.2⟩
end Go.Proofs.YtomnpfbebimpkaaGreatDoor

namespace Go.Proofs.YtomnpfbebimpkaaGreatDoor
set_option maxRecDepth 20000
open Go.RowKit
def hpEq (a b : Hp) : Bool := (a.port == b.port) && (hEq a.head b.head && ((a.hit == b.hit) && ((a.prio == b.prio) && cEq a.m b.m)))
theorem edFields:∃f g:Field,(Tryz.prog.fieldsOf 58).toList=[f,g]∧(f.name≠ "_" ∧f.type=3∧f.offset=0)∧(g.name≠ "_" ∧g.type=3∧g.offset=1):=⟨_,_,rfl,⟨by decide,rfl,rfl⟩,⟨by decide,rfl,rfl⟩⟩
theorem hopFields:∃f0 f1 f2 f3 f4:Field,(Tryz.prog.fieldsOf 60).toList=[f0,f1,f2,f3,f4]∧(f0.name≠ "_" ∧f0.type=58∧f0.offset=0)∧(f1.name≠ "_" ∧f1.type=35∧f1.offset=2)∧(f2.name≠ "_" ∧f2.type=4∧f2.offset=14)∧(f3.name≠ "_" ∧f3.type=3∧f3.offset=15)∧(f4.name≠ "_" ∧f4.type=37∧f4.offset=16):=⟨_,_,_,_,_,rfl,⟨by decide,rfl,rfl⟩,⟨by decide,rfl,rfl⟩,⟨by decide,rfl,rfl⟩,⟨by decide,rfl,rfl⟩,⟨by decide,rfl,rfl⟩⟩
def edA (p : Int) : Array Value := #[.int .i64 0, .int .i64 p]
theorem partE0' (p:Int) (w:World):(part 3 (edA p) 0).run Tryz.prog w= .ok (.int .i64 0) w:=by kernel_rfl
theorem partE1' (p:Int) (w:World):(part 3 (edA p) 1).run Tryz.prog w= .ok (.int .i64 p) w:=by kernel_rfl
theorem partH0 (x:Hp) (w:World):(part 58 (hpa x) 0).run Tryz.prog w= .ok (.agg (edA x.port)) w:=by kernel_rfl
theorem partH1 (x:Hp) (w:World):(part 35 (hpa x) 2).run Tryz.prog w= .ok (.agg (hc x.head)) w:=by kernel_rfl
theorem partH2 (x:Hp) (w:World):(part 4 (hpa x) 14).run Tryz.prog w= .ok (.bool x.hit) w:=by kernel_rfl
theorem partH3 (x:Hp) (w:World):(part 3 (hpa x) 15).run Tryz.prog w= .ok (.int .i64 x.prio) w:=by kernel_rfl
theorem partH4 (x:Hp) (w:World):(part 37 (hpa x) 16).run Tryz.prog w= .ok (.agg (cc x.m)) w:=by kernel_rfl
theorem eql_ed (d:Nat) (a b:Int) (w:World):(Op.equalIn (d+2) 58 (.agg (edA a)) (.agg (edA b))).run Tryz.prog w= .ok (a==b) w:=by
 obtain⟨f,g,hf,⟨f1,f2,f3⟩,⟨g1,g2,g3⟩⟩:=edFields;rw[run_equalIn_struct w (d+1) 58 (edA a) (edA b) (by kernel_rfl) (by kernel_rfl),hf];have hI:∀x y:Int,(Op.equalIn (d+1) 3 (.int .i64 x) (.int .i64 y)).run Tryz.prog w= .ok (x==y) w:=fun x y=>run_equalIn_int w d 3 .i64 .i64 x y Tryz.underlying3;simp only[Op.eqFields,f1,f2,f3,g1,g2,g3,ne_eq,not_false_eq_true,if_true,Sem.run_bind,partE0',Result.andThen_ok,hI,BEq.rfl,Bool.not_true,Bool.false_eq_true,if_false,partE1'];cases a==b<;>simp
theorem eqlHcD (d:Nat) (a b:Nat→Int) (w:World):(Op.equalIn (d+2) 35 (.agg (hc a)) (.agg (hc b))).run Tryz.prog w= .ok (hEq a b) w:=eqlHl d a b w
theorem eql_bool (d:Nat) (a b:Bool) (w:World):(Op.equalIn (d+1) 4 (.bool a) (.bool b)).run Tryz.prog w= .ok (a==b) w:=by
 simp[Op.equalIn,run_underlying Tryz.underlying4,Result.andThen]
theorem eql_hop (a b:Hp) (w:World):(Op.equalIn 10000 60 (.agg (hpa a)) (.agg (hpa b))).run Tryz.prog w= .ok (hpEq a b) w:=by
 obtain⟨f0,f1,f2,f3,f4,hf,⟨a0,b0,c0⟩,⟨a1,b1,c1⟩,⟨a2,b2,c2⟩,⟨a3,b3,c3⟩,⟨a4,b4,c4⟩⟩:=hopFields;rw[run_equalIn_struct w 9999 60 (hpa a) (hpa b) (by kernel_rfl) (by kernel_rfl),hf];have hI:∀x y:Int,(Op.equalIn 9999 3 (.int .i64 x) (.int .i64 y)).run Tryz.prog w= .ok (x==y) w:=fun x y=>run_equalIn_int w 9998 3 .i64 .i64 x y Tryz.underlying3;unfold hpEq;simp only[Op.eqFields,a0,b0,c0,a1,b1,c1,a2,b2,c2,a3,b3,c3,a4,b4,c4,ne_eq,not_false_eq_true,if_true,Sem.run_bind,partH0,Result.andThen_ok,eql_ed 9997];cases e0:a.port==b.port
 ·simp
 simp only[Bool.not_true,Bool.false_eq_true,if_false,Sem.run_bind,partH1,Result.andThen_ok,eqlHcD 9997];cases e1:hEq a.head b.head
 ·simp
 simp only[Bool.not_true,Bool.false_eq_true,if_false,Sem.run_bind,partH2,Result.andThen_ok,eql_bool 9998];cases e2:a.hit==b.hit
 ·simp
 simp only[Bool.not_true,Bool.false_eq_true,if_false,Sem.run_bind,partH3,Result.andThen_ok,hI];cases e3:a.prio==b.prio
 ·simp
 simp only[Bool.not_true,Bool.false_eq_true,if_false,Sem.run_bind,partH4,Result.andThen_ok,eql_cubeD 9996];cases e4:cEq a.m b.m<;>simp
theorem guardHop:Tryz.prog.eqGuardType Tryz.prog.depth 60=false:=by kernel_rfl
theorem hpEq_self (a:Hp):hpEq a a=true:=by
 unfold hpEq;rw[(hEq_iff a.head a.head).2 fun _ _=>rfl,(cEq_iff a.m a.m).2 fun _ _=>rfl];simp
end Go.Proofs.YtomnpfbebimpkaaGreatDoor

namespace Go.Proofs.YtomnpfbebimpkaaGreatDoor
set_option maxRecDepth 20000
open Go.RowKit
theorem rtake_any (z:Zu) (k:Nat) (hF:FitZ k z) (hk:k+2≤9000) (g:Gm) (hw:WfMs g.u) (w0 w:World) (hZ:RefA w0 z w) (hi:InG g w0) (ht:Tab w) (hz0:0<w0.heap.size):Calls Tryz.prog 30 #[.pointer (some ⟨z.p,0,none⟩),.agg (gca g)] w (TkZ z g w0 w):=by
 cases hs:sndMs g.u
 ·exact rtk_no z k hF hk g hw w0 w hZ hi ht hz0 hs
 ·rcases snd_kinds hs with q|q|q|q|q|q
  ·exact rtk_mod z k hF hk g hw w0 w hZ hi ht hz0 hs q
  ·exact rtk_bar z k hF hk g hw w0 w hZ hi ht hz0 hs q
  ·exact rtk_end3 z k hF hk g hw w0 w hZ hi ht hz0 hs q
  ·exact rtk_end4 z k hF hk g hw w0 w hZ hi ht hz0 hs q
  ·exact rtk_ask z k hF hk g hw w0 w hZ hi ht hz0 hs q
  ·exact rtk_oth z k hF hk g hw w0 w hZ hi ht hz0 hs q
end Go.Proofs.YtomnpfbebimpkaaGreatDoor

namespace Go.Proofs.YtomnpfbebimpkaaGreatDoor
set_option maxRecDepth 20000
open Go.RowKit
def OkM (m : Ms) : Prop := m.mod.acts.length ≤ 1000 ∧ WfUL m.rules ∧ m.rules.length ≤ 9000
theorem okErr (t e:Int):OkM (errM t e):=⟨Nat.zero_le _,fun u hu=>(by cases hu),Nat.zero_le _⟩
theorem takeA_ok {s:Un} {n:Nat} (h:Fit n s) (hn:n≤9000) (g:Ms):∀m∈takeA s g,OkM m:=fun m hm=>by
 unfold takeA at hm;split at hm
 ·simp only[List.mem_cons,List.not_mem_nil,or_false] at hm;rw[hm];exact okErr _ _
 split at hm
 ·unfold errL at hm;split at hm
  ·cases hm
  ·simp only[List.mem_cons,List.not_mem_nil,or_false] at hm;rw[hm];exact okErr _ _
 split at hm
 ·simp only[List.mem_cons,List.not_mem_nil,or_false] at hm;rw[hm];exact⟨Nat.zero_le _,fun u hu=>(by cases hu),Nat.zero_le _⟩
 split at hm
 ·simp only[List.mem_cons,List.not_mem_nil,or_false] at hm;rw[hm];exact⟨Nat.zero_le _,h.base,by have:=h.size;show s.base.length≤9000;omega⟩
 split at hm
 ·cases hm
 ·simp only[List.mem_cons,List.not_mem_nil,or_false] at hm;rw[hm];exact okErr _ _
theorem tickA_ok {s:Un} {n:Nat} (h:Fit n s) (m:Int):∀x∈tickA s m,OkM x:=fun x hx=>by
 unfold tickA at hx;obtain⟨u,hu,rfl⟩:=List.mem_map.1 hx;refine⟨Nat.zero_le _,fun v hv=>?_,by show 1≤9000;decide⟩;simp only[List.mem_cons,List.not_mem_nil,or_false] at hv;subst hv;exact wf_gone h.base (clamp_range m).1 (clamp_range m).2 _ hu
theorem pktA_ok (s:Un) (p:Int) (h:Nat→Int):∀x∈pktA s p h,OkM x:=fun x hx=>by
 unfold pktA at hx;split at hx
 ·cases hx
 split at hx
 ·simp only[List.mem_cons,List.not_mem_nil,or_false] at hx;rw[hx];exact⟨Nat.zero_le _,fun u hu=>(by cases hu),Nat.zero_le _⟩
 ·cases hx
theorem takeA_len (s:Un) (g:Ms):(takeA s g).length≤9000:=by
 unfold takeA errL;(repeat' split);all_goals simp
theorem tickA_len {s:Un} {n:Nat} (h:Fit n s) (hn:n≤9000) (m:Int):(tickA s m).length≤9000:=by
 unfold tickA;rw[List.length_map];have h1:=left_gone_len (clampN m) s.base;have h2:=h.size;omega
theorem pktA_len (s:Un) (p:Int) (h:Nat→Int):(pktA s p h).length≤9000:=by
 unfold pktA;(repeat' split);all_goals simp
theorem runS_len:∀(l:List Ac) (h:Nat→Int),(runS h l).length≤l.length
 |[],_=>Nat.le_refl _
 |a::l,h=>by have h1:=runS_len l (stepH h a);have h2:(stepS h a).length≤1:=(by unfold stepS;split<;>simp);show(stepS h a++runS (stepH h a) l).length≤_;rw[List.length_append,List.length_cons];omega
theorem pktL_len {s:Un} {n:Nat} (hf:Fit n s) (p:Int) (h:Nat→Int):(pktL s p h).length≤140737488355328:=by
 unfold pktL;split
 ·exact Nat.zero_le _
 split
 ·rename_i i hi;unfold runV;split
  ·refine Nat.le_trans (runS_len _ _) ?_;unfold fndU at hi;obtain⟨hlt,_⟩:=List.findIdx?_eq_some_iff_getElem.1 hi;unfold ruAt;rw[List.getElem?_eq_getElem hlt];exact(hf.view _ (List.getElem_mem hlt)).len
  ·exact Nat.zero_le _
 ·exact Nat.zero_le _
theorem same_ans {v1 v2:Value} {l k:List Gm} {us vs:List Ms} (hq:us.length≤9000) (e1:l.map (·.u)=us) (e2:k.map (·.u)=vs) (h1:∀m∈us,OkM m) (h2:∀m∈vs,OkM m) (w:World) (k1:KLies KG v1 l w∧∀a∈l,InG a w) (k2:AnsZ v2 k w):Calls Tryz.prog 29 #[v1,v2] w (MsgsRet us vs w):=by
 have a1:∀a∈l,OkM a.u:=fun a ha=>h1 _ (e1 ▸ List.mem_map_of_mem ha);have a2:∀a∈k,OkM a.u:=fun a ha=>h2 _ (e2 ▸ List.mem_map_of_mem ha);have:=rsamemsgs_any v1 v2 l k (by rw[←e1,List.length_map] at hq;exact hq) (fun a ha=>by have h:=(a1 a ha).2.2;have h':(a.rs.map (·.u)).length≤9000:=h;rw[List.length_map] at h';omega) (fun a ha=>(show WfUL (a.rs.map (·.u)) from(a2 a ha).2.1).rl rfl) (fun a ha=>by have h:a.mod.u.acts.length≤1000:=(a2 a ha).1;omega) w k1.1 k2.1 k1.2 k2.2;rwa [e1,e2] at this
def playS (s : Un) (x : Xm) : Un := if x.what = 0 then takeS s x.g.u else if x.what = 1 then pktS s x.n x.h else if x.what = 2 then tickS s x.n else failS s
structure Ply (w0 : World) (B : Nat) (y : Um) (s : Un) (v : Zu) (n : Nat) (W : World) : Prop where
  u : Stt w0 B y s n W
  z : RefA w0 v W
  f : FitZ n v
  d : ∀ g ∈ y.muts, g ∉ v.muts
section
variable {w0 W W' : World} {B n m : Nat} {y y' : Um} {s s' : Un} {z z' : Zu}
theorem Ply.below (h:Ply w0 B y s z n W) (hb:Below W.heap.size W W'):Ply w0 B y s z n W':=⟨h.u.below hb,h.z.below hb,h.f,h.d⟩
theorem Ply.onU (h:Ply w0 B y s z n W) (hA:Stt w0 B y' s' m W') (k:UFr y y' W W') (hn:n≤m):Ply w0 B y' s' z m W':=⟨hA,h.z.fr k.fr h.u.uni.muts hA.bel fun g hg hm=>h.d g hm hg,⟨h.f.fit.mono hn,hA.fit.n⟩,fun g hg hz=>by
 rcases k.new g hg with q|q
 ·exact h.d g q hz
 ·have:=h.z.muts.lt g hz;omega⟩
theorem Ply.onZ (h:Ply w0 B y s z n W) (hz:RefA w0 z' W') (k:ZFr z z' W W') (hf:FitZ m z') (hn:n≤m):Ply w0 B y s z' m W':=⟨⟨h.u.un,⟨h.u.fit.fit.mono hn,hf.n⟩,h.u.uni.fr k.fr h.z.muts h.d,hz.bel,h.u.tab.belowAt h.u.hz (k.fr.below h.z.from h.z.bel.size (Below.refl _ _)),h.u.p,h.u.ge,h.u.hz⟩,hz,hf,fun g hg hm=>by
 rcases k.new g hm with q|q
 ·exact h.d g hg q
 ·have:=h.u.uni.muts.lt g hg;omega⟩
theorem Ply.mono (h:Ply w0 B y s z n W) (hn:n≤m) (hm:m≤9000):Ply w0 B y s z m W:=⟨h.u.mono hn hm,h.z,⟨h.f.fit.mono hn,hm⟩,h.d⟩
end
def PlyRet (w0 : World) (B : Nat) (s : Un) (z : Zu) (x : Xm) (n : Nat) (e : Ending) (w' : World) : Prop :=
  ∃ (b : Bool) (y' : Um) (z' : Zu), e = .returned (.bool b) ∧ (z.un = s → b = true) ∧ z'.un = playS z.un x ∧ z'.p = z.p ∧ Ply w0 B y' (playS s x) z' (n + 2) w'
theorem playS0 {s:Un} {x:Xm} (h:x.what=0):playS s x=takeS s x.g.u:=if_pos h
theorem playS1 {s:Un} {x:Xm} (h:x.what=1):playS s x=pktS s x.n x.h:=by unfold playS;rw[if_neg (by omega),if_pos h]
theorem playS2 {s:Un} {x:Xm} (h:x.what=2):playS s x=tickS s x.n:=by unfold playS;rw[if_neg (by omega),if_neg (by omega),if_pos h]
theorem playS3 {s:Un} {x:Xm} (h0:x.what≠0) (h1:x.what≠1) (h2:x.what≠2):playS s x=failS s:=by unfold playS;rw[if_neg h0,if_neg h1,if_neg h2]
set_option maxHeartbeats 8000000 in
set_option maxRecDepth 100000 in
theorem play_take (w0:World) (B:Nat) (y:Um) (s:Un) (z:Zu) (n:Nat) (W:World) (h:Ply w0 B y s z n W) (x:Xm) (hx:WfX x) (hi:InG x.g w0) (hn:n+2≤9000) (hk:x.what=0):Calls Tryz.prog 13 #[.pointer (some ⟨B,0,none⟩),.pointer (some ⟨z.p,0,none⟩),.agg (xca x)] W (PlyRet w0 B s z x n):=by
 have HX:=qH hx;have HI:=qH hi;have HN:=qH hn;have R0:=qH (Blk.new W (xca x) 44);have HP1:=qH (h.below (below1 W (.cells (xca x) 44)));have HK:=qH hk;clear hk;clear hx hi hn h;(go_enter Tryz.func13,Tryz.ntmps13);(go_upto_region 1 with fail);obtain⟨b,hb⟩:∃b,b=W.heap.size:=⟨_,rfl⟩;rw[←hb] at R0 ⊢;clear hb;generalize W.alloc (.cells (xca x) 44)=V0 at*;have c0:V0.cell? ⟨b,0,none⟩=some (.int .i64 0):=(by rw[←HK.out];exact(cell_of_row _ b 0 _ _ _ R0.out).trans rfl);(go_upto_region 3 with fail);clear c0;refine wp_region_held_drew (S:=fun W'=>Blk b (xca x) 44 W') (by kernel_rfl) (R0.out.below (Below.refl _ _).drew) (fun hS=>?_);have HP2:=qH (HP1.out.below (Below.refl _ _).drew);clear HP1 R0;generalize V0.drew=W1 at*;refine sR 0 hS ?_;refine sR 1 hS ?_;refine sV 2 rfl (fun w hSw=>(show(execOp _ _).run _ w= .ok (.value (.agg (gca x.g))) w from execRow rfl b 2 rfl (gcl x.g) _ (cellsX_mid hSw.rangeX).g Tryz.underlying42 rfl infoG)) hS ?_;refine sR 4 hS ?_;refine sR 5 hS ?_;refine sV 6 rfl (fun w hSw=>(show(execOp _ _).run _ w= .ok (.value (.agg (gca x.g))) w from execRow rfl b 2 rfl (gcl x.g) _ (cellsX_mid hSw.rangeX).g Tryz.underlying42 rfl infoG)) hS ?_;refine sC 3 (fun K hK=>?_);go_simp;refine(st_take HP2.out.u x.g HX.out.g.ms (HP2.out.u.bel |> fun h=>⟨HI.out.1.below h,HI.out.2.below h⟩) (HP2.out.u.stM HI.out.1) HN.out).mono ?_;rintro e W2 ⟨y',v1,gs1,rfl,hg1,ha1,hst1,hf1⟩;have HP3:=qH (HP2.out.onU hst1 hf1 (by omega));have HA1:=qH ha1;have HG1:=qH hg1;refine hK.out _ _ (hf1.fr.blk hS (HP2.out.u.uni.muts.not hS.typ (by decide))) (fun hS=>?_);clear hK K hg1 ha1 hst1 hf1;(try simp only[Act.put,sA,sB,sE]);refine sC 7 (fun K hK=>?_);go_simp;refine(rtake_any z n HP2.out.f HN.out x.g HX.out.g.ms w0 W2 HP3.out.z HI.out HP3.out.u.tab HP3.out.u.hz).mono ?_;rintro e W3 ⟨z',v2,gs2,rfl,hg2,ha2,hu2,hz2,hp2,hf2⟩;have HP4:=qH (HP3.out.onZ hz2 hf2 (show FitZ (n+2) z' from⟨by rw[hu2];exact HP2.out.f.fit.take HX.out.g.ms,by have:=HN.out;omega⟩) (Nat.le_refl _));have HA3:=qH (HA1.out.fr hf2.fr HP3.out.z.muts);have HA2:=qH ha2;have HG2:=qH hg2;have HU2:=qH (And.intro hu2 hp2);refine hK.out _ _ (hf2.fr.blk hS (HP3.out.z.muts.not hS.typ (by decide))) (fun hS=>?_);clear hK K hg2 ha2 hu2 hz2 hp2 hf2 HA1;(try simp only[Act.put,sA,sB,sE]);refine sC 8 (fun K hK=>?_);go_simp;refine(same_ans (takeA_len _ _) HG1.out HG2.out (takeA_ok (by rw[←HP2.out.u.un];exact HP2.out.u.fit.fit) HP2.out.u.fit.n _) (takeA_ok HP2.out.f.fit HP2.out.f.n _) W3 HA3.out.lies HA2.out).mono ?_;rintro e W4 ⟨b1,rfl,hb1,hw4⟩;have HP5:=qH (HP4.out.below hw4);have HB1:=qH hb1;refine hK.out _ _ (hS.below hw4) (fun hS=>?_);clear hK K hb1 hw4 HP4 HA3 HA2;(try simp only[Act.put,sA,sB,sE]);refine sR 9 hS ?_;refine sD ?_;clear hS;(go_wp2_with fail);go_ret;exact⟨b1,y',z',rfl,fun e=>HB1.out (by rw[e]),by rw[playS0 HK.out];exact HU2.out.1,HU2.out.2,by rw[playS0 HK.out];exact HP5.out⟩
set_option maxHeartbeats 8000000 in
set_option maxRecDepth 100000 in
theorem play_tick (w0:World) (B:Nat) (y:Um) (s:Un) (z:Zu) (n:Nat) (W:World) (h:Ply w0 B y s z n W) (x:Xm) (hx:WfX x) (hi:InG x.g w0) (hn:n+2≤9000) (hk:x.what=2):Calls Tryz.prog 13 #[.pointer (some ⟨B,0,none⟩),.pointer (some ⟨z.p,0,none⟩),.agg (xca x)] W (PlyRet w0 B s z x n):=by
 have HX:=qH hx;have HI:=qH hi;have HN:=qH hn;have R0:=qH (Blk.new W (xca x) 44);have HP1:=qH (h.below (below1 W (.cells (xca x) 44)));have HK:=qH hk;clear hk;clear hx hi hn h;(go_enter Tryz.func13,Tryz.ntmps13);(go_upto_region 1 with fail);obtain⟨b,hb⟩:∃b,b=W.heap.size:=⟨_,rfl⟩;rw[←hb] at R0 ⊢;clear hb;generalize W.alloc (.cells (xca x) 44)=V0 at*;have c0:V0.cell? ⟨b,0,none⟩=some (.int .i64 2):=(by rw[←HK.out];exact(cell_of_row _ b 0 _ _ _ R0.out).trans rfl);(go_upto_region 9 with fail);clear c0;refine wp_region_held_drew (S:=fun W'=>Blk b (xca x) 44 W') (by kernel_rfl) (R0.out.below (Below.refl _ _).drew) (fun hS=>?_);have HP2:=qH (HP1.out.below (Below.refl _ _).drew);clear HP1 R0;generalize V0.drew=W1 at*;refine sR 0 hS ?_;refine sR 1 hS ?_;refine sV 2 rfl (fun w hSw=>(by have c:w.cell? ⟨b,1,none⟩=some (.int .i64 x.n):=(cellsX_mid hSw.rangeX).n;go_simp<;>with_reducible rfl)) hS ?_;refine sR 4 hS ?_;refine sR 5 hS ?_;refine sV 6 rfl (fun w hSw=>(by have c:w.cell? ⟨b,1,none⟩=some (.int .i64 x.n):=(cellsX_mid hSw.rangeX).n;go_simp<;>with_reducible rfl)) hS ?_;refine sC 3 (fun K hK=>?_);go_simp;refine(st_tick HP2.out.u x.n).mono ?_;rintro e W2 ⟨y',v1,gs1,rfl,hg1,ha1,hst1,hf1⟩;have HP3:=qH (HP2.out.onU hst1 hf1 (by omega));have HA1:=qH ha1;have HG1:=qH hg1;refine hK.out _ _ (hf1.fr.blk hS (HP2.out.u.uni.muts.not hS.typ (by decide))) (fun hS=>?_);clear hK K hg1 ha1 hst1 hf1;(try simp only[Act.put,sA,sB,sE]);refine sC 7 (fun K hK=>?_);go_simp;refine(rtick_z z n HP2.out.f x.n w0 W2 HP3.out.z).mono ?_;rintro e W3 ⟨z',v2,gs2,rfl,hg2,ha2,hu2,hz2,hp2,hf2⟩;have HP4:=qH (HP3.out.onZ hz2 hf2 (show FitZ n z' from⟨by rw[hu2];exact HP2.out.f.fit.tick x.n,by have:=HN.out;omega⟩) (Nat.le_refl _));have HA3:=qH (HA1.out.fr hf2.fr HP3.out.z.muts);have HA2:=qH ha2;have HG2:=qH hg2;have HU2:=qH (And.intro hu2 hp2);refine hK.out _ _ (hf2.fr.blk hS (HP3.out.z.muts.not hS.typ (by decide))) (fun hS=>?_);clear hK K hg2 ha2 hu2 hz2 hp2 hf2 HA1;(try simp only[Act.put,sA,sB,sE]);refine sC 8 (fun K hK=>?_);go_simp;refine(same_ans (tickA_len (by rw[←HP2.out.u.un];exact HP2.out.u.fit.fit) HP2.out.u.fit.n _) HG1.out HG2.out (tickA_ok (by rw[←HP2.out.u.un];exact HP2.out.u.fit.fit) _) (tickA_ok HP2.out.f.fit _) W3 HA3.out.lies HA2.out).mono ?_;rintro e W4 ⟨b1,rfl,hb1,hw4⟩;have HP5:=qH (HP4.out.below hw4);have HB1:=qH hb1;refine hK.out _ _ (hS.below hw4) (fun hS=>?_);clear hK K hb1 hw4 HP4 HA3 HA2;(try simp only[Act.put,sA,sB,sE]);refine sR 9 hS ?_;refine sD ?_;clear hS;(go_wp2_with fail);go_ret;exact⟨b1,y',z',rfl,fun e=>HB1.out (by rw[e]),by rw[playS2 HK.out];exact HU2.out.1,HU2.out.2,by rw[playS2 HK.out];exact HP5.out.mono (by omega) HN.out⟩
set_option maxHeartbeats 8000000 in
set_option maxRecDepth 100000 in
theorem play_fail (w0:World) (B:Nat) (y:Um) (s:Un) (z:Zu) (n:Nat) (W:World) (h:Ply w0 B y s z n W) (x:Xm) (hx:WfX x) (hi:InG x.g w0) (hn:n+2≤9000) (h0:x.what≠0) (h1:x.what≠1) (h2:x.what≠2):Calls Tryz.prog 13 #[.pointer (some ⟨B,0,none⟩),.pointer (some ⟨z.p,0,none⟩),.agg (xca x)] W (PlyRet w0 B s z x n):=by
 have HX:=qH hx;have HI:=qH hi;have HN:=qH hn;have R0:=qH (Blk.new W (xca x) 44);have HP1:=qH (h.below (below1 W (.cells (xca x) 44)));have HK:=qH (And.intro h0 (And.intro h1 h2));have d0:(x.what==0)=false:=(by simpa using h0);have d1:(x.what==1)=false:=(by simpa using h1);have d2:(x.what==2)=false:=(by simpa using h2);clear h0 h1 h2;clear hx hi hn h;(go_enter Tryz.func13,Tryz.ntmps13);(go_upto_region 1 with fail);obtain⟨b,hb⟩:∃b,b=W.heap.size:=⟨_,rfl⟩;rw[←hb] at R0 ⊢;clear hb;generalize W.alloc (.cells (xca x) 44)=V0 at*;have c0:V0.cell? ⟨b,0,none⟩=some (.int .i64 x.what):=(cell_of_row _ b 0 _ _ _ R0.out).trans rfl;have HFA:=qH (st_fail HP1.out.u);(go_wp2_with(first|((go_at_call 23;refine HFA.out.mono ?_;rintro e W2 ⟨rfl,y',hst1,hf1⟩);have HP3:=qH (HP1.out.onU hst1 hf1 (Nat.le_refl _));have HTH:=qH (show W2.there z.p 3 1 from HP3.out.z.box.there (by show 4≤4;decide));clear hst1 hf1)|(refine storeCell rfl 4 _ _ rfl z.p 3 (.bool true) rfl rfl rfl HTH.out infoBool ?_;refine Hid.out ?_)));have HFW:=qH (Fr.cell W2 ⟨z.p,3,none⟩ (.bool true) (M:=[z.p]) (by simp));have HZ4:=qH (HP3.out.z.put (z':={ z with fail:=true}) rfl (HP3.out.z.box.one (k:=3) (.bool true)) HFW.out HP3.out.z.base HP3.out.z.acts HP3.out.z.opn HP3.out.z.txs HP3.out.z.mods);have HF4:=qH (ZFr.put (z:=z) (z':={ z with fail:=true}) (Below.refl _ W2) HFW.out (fun g hg=> .inl hg));have HP5:=qH (HP3.out.onZ HZ4.out HF4.out (show FitZ n { z with fail:=true} from⟨HP3.out.f.fit.failed true,HP3.out.f.n⟩) (Nat.le_refl _));clear HFW HZ4 HF4 HTH HP3 HP1 R0 HFA;generalize W2.setCell ⟨z.p,3,none⟩ (.bool true)=W5 at*;refine qH ?_;(go_wp2_with fail);go_ret;exact⟨true,y',{ z with fail:=true},rfl,fun _=>rfl,by rw[playS3 HK.out.1 HK.out.2.1 HK.out.2.2];rfl,rfl,by rw[playS3 HK.out.1 HK.out.2.1 HK.out.2.2];exact HP5.out.mono (by omega) HN.out⟩
set_option maxHeartbeats 8000000 in
set_option maxRecDepth 100000 in
theorem play_pkt (w0:World) (B:Nat) (y:Um) (s:Un) (z:Zu) (n:Nat) (W:World) (h:Ply w0 B y s z n W) (x:Xm) (hx:WfX x) (hi:InG x.g w0) (hn:n+2≤9000) (hk:x.what=1):Calls Tryz.prog 13 #[.pointer (some ⟨B,0,none⟩),.pointer (some ⟨z.p,0,none⟩),.agg (xca x)] W (PlyRet w0 B s z x n):=by
 have HX:=qH hx;have HI:=qH hi;have HN:=qH hn;have R0:=qH (Blk.new W (xca x) 44);have HP1:=qH (h.below (below1 W (.cells (xca x) 44)));have HK:=qH hk;clear hk;clear hx hi hn h;(go_enter Tryz.func13,Tryz.ntmps13);(go_upto_region 1 with fail);obtain⟨b,hb⟩:∃b,b=W.heap.size:=⟨_,rfl⟩;rw[←hb] at R0 ⊢;clear hb;generalize W.alloc (.cells (xca x) 44)=V0 at*;have c0:V0.cell? ⟨b,0,none⟩=some (.int .i64 1):=(by rw[←HK.out];exact(cell_of_row _ b 0 _ _ _ R0.out).trans rfl);have c1:V0.cell? ⟨b,1,none⟩=some (.int .i64 x.n):=(cell_of_row _ b 1 _ _ _ R0.out).trans rfl;have hzz:=hpa_zero;have HH:=qH (show V0.rangeAt b 50 (hl x.h) from(cellsX_mid R0.out.rangeX).h);have HU1:=qH (st_packet HP1.out.u x.n x.h HX.out.h);obtain⟨H1,hH1⟩:∃H1,H1=pktH s x.n x.h:=⟨_,rfl⟩;have HH1:=qH hH1;rw[←hH1] at HU1;clear hH1;(go_upto_region 6 with(first|(refine wpList_load_mid rfl 35 _ rfl b 50 rfl (hl x.h) _ HH.out Tryz.underlying35 rfl infoHc ?_)|(go_at_call 20;refine HU1.out.mono ?_;rintro e W2 ⟨y',vs1,va1,gs1,rfl,hs1,hg1,ha1,hst1,hf1⟩;clear c0 c1)|(refine wpList_store_row rfl 60 _ _ rfl W2.heap.size (hpa H1) rfl rfl 60 _ (heap_alloc_new _ _) (by kernel_rfl) rfl (hpa_one _) ?_;rw[World.setRow_alloc_new])));have HBA:=qH (below1 W2 (.cells (hpa H1) 60));have R9:=qH (Blk.new W2 (hpa H1) 60);have HP3:=qH ((HP1.out.onU hst1 hf1 (Nat.le_refl _)).below HBA.out);have R02:=qH ((hf1.fr.blk R0.out (HP1.out.u.uni.muts.not R0.out.typ (by decide))).below HBA.out);have HS1:=qH (hs1.below HBA.out);have HA1:=qH (ha1.below HBA.out);have HG1:=qH hg1;obtain⟨b9,hb9⟩:∃b9,b9=W2.heap.size:=⟨_,rfl⟩;rw[←hb9] at R9 ⊢;clear hs1 hg1 ha1 hst1 hf1 hb9 HBA HU1 HH R0;generalize W2.alloc (.cells (hpa H1) 60)=V2 at*;have c1:V2.cell? ⟨b,1,none⟩=some (.int .i64 x.n):=(cell_of_row _ b 1 _ _ _ R02.out).trans rfl;have HH:=qH (show V2.rangeAt b 50 (hl x.h) from(cellsX_mid R02.out.rangeX).h);have HU2:=qH (rpkt_any z n HP1.out.f x.n x.h HX.out.h w0 V2 HP3.out.z HP3.out.u.tab HP3.out.u.hz);obtain⟨H2,hH2⟩:∃H2,H2=pktH z.un x.n x.h:=⟨_,rfl⟩;have HH2:=qH hH2;unfold PktZ at HU2;rw[←hH2] at HU2;clear hH2;(go_upto_region 7 with(first|(refine wpList_load_mid rfl 35 _ rfl b 50 rfl (hl x.h) _ HH.out Tryz.underlying35 rfl infoHc ?_)|(go_at_call 31;refine HU2.out.mono ?_;rintro e W3 ⟨z',vs2,va2,gs2,rfl,hs2,hg2,ha2,hu2,hz2,hp2,hf2⟩;clear c1)|(refine wpList_store_row rfl 60 _ _ rfl W3.heap.size (hpa H2) rfl rfl 60 _ (heap_alloc_new _ _) (by kernel_rfl) rfl (hpa_one _) ?_;rw[World.setRow_alloc_new])));have HBA:=qH (below1 W3 (.cells (hpa H2) 60));have R12:=qH (Blk.new W3 (hpa H2) 60);have HP4:=qH ((HP3.out.onZ hz2 hf2 (show FitZ n z' from⟨by rw[hu2];exact HP1.out.f.fit.pkt x.n x.h,HP1.out.f.n⟩) (Nat.le_refl _)).below HBA.out);have R92:=qH ((hf2.fr.blk R9.out (HP3.out.z.muts.not R9.out.typ (by decide))).below HBA.out);have HS1b:=qH ((hf2.fr.ownsT HP3.out.z.muts HS1.out notS).below HBA.out);have HA1b:=qH ((HA1.out.fr hf2.fr HP3.out.z.muts).below HBA.out);have HS2:=qH (hs2.below HBA.out);have HA2:=qH (ha2.below HBA.out);have HG2:=qH hg2;have HUP:=qH (And.intro hu2 hp2);obtain⟨b12,hb12⟩:∃b12,b12=W3.heap.size:=⟨_,rfl⟩;rw[←hb12] at R12 ⊢;clear hs2 hg2 ha2 hu2 hp2 hz2 hf2 hb12 HBA HU2 HH R02 R9 HS1 HA1 HP3;generalize W3.alloc (.cells (hpa H2) 60)=V3 at*;have HSS:=qH (rsends_any vs1 vs2 (pktL s x.n x.h) (pktL z.un x.n x.h) (pktL_len (by have:=HP1.out.u.fit.fit;rwa [HP1.out.u.un] at this:Fit n s) x.n x.h) V3 (HS1b.out.lies okS) (HS2.out.lies okS));have HEQ:=qH (fun e:z.un=s=>show hpEq H1 H2=true by rw[HH1.out,HH2.out,e];exact hpEq_self _);have HFS:=qH (show Fit n s by have:=HP1.out.u.fit.fit;rwa [HP1.out.u.un] at this);have HFR:=qH (playS1 (s:=z.un) HK.out);have HFQ:=qH (playS1 (s:=s) HK.out);have HPF:=qH (show ∀V,Below V3.heap.size V3 V→Ply w0 B y' (playS s x) z' (n+2) V from fun V hb=>by rw[HFQ.out];exact(HP4.out.below hb).mono (by omega) HN.out);clear HP4 HP1;have hgd:=guardHop;have heq:∀w,(Op.equalIn 10000 60 (.agg (hpa H1)) (.agg (hpa H2))).run Tryz.prog w= .ok (hpEq H1 H2) w:=fun w=>eql_hop H1 H2 w;generalize hpEq H1 H2=yh at*;(go_wp2_with(go_at_call 32;refine HSS.out.mono ?_;rintro e V4 ⟨y1,rfl,hy1,hw4⟩;refine Hid.out ?_));have HY1:=qH hy1;have HMM:=qH (same_ans (pktA_len _ _ _) HG1.out HG2.out (pktA_ok s x.n x.h) (pktA_ok z.un x.n x.h) V4 (HA1b.out.below hw4).lies (HA2.out.below hw4));have R94:=qH (R92.out.below hw4);have R14:=qH (R12.out.below hw4);have HB4:=qH hw4;clear hy1 hw4 HSS;refine qH ?_;cases y1
 ·(go_wp2_with fail);go_ret;exact⟨false,y',z',rfl,fun e=>absurd (HY1.out (by rw[e])) Bool.false_ne_true,by rw[HFR.out];exact HUP.out.1,HUP.out.2,HPF.out _ HB4.out⟩
 (go_wp2_with(go_at_call 29;refine HMM.out.mono ?_;rintro e V5 ⟨y2,rfl,hy2,hw5⟩;refine Hid.out ?_));have HY2:=qH hy2;have R95:=qH (R94.out.below hw5);have R15:=qH (R14.out.below hw5);have HB5:=qH (HB4.out.trans (hw5.mono HB4.out.size));clear hy2 hw5 HMM;refine qH ?_;cases y2
 ·(go_wp2_with fail);go_ret;exact⟨false,y',z',rfl,fun e=>absurd (HY2.out (by rw[e])) Bool.false_ne_true,by rw[HFR.out];exact HUP.out.1,HUP.out.2,HPF.out _ HB5.out⟩
 (go_wp2_with(first|(refine loadRowG rfl 60 (.tmp 9) rfl b9 rfl 60 (hpa H1) (0,0) R95.out Tryz.underlying60 rfl (by rw[hpa_size];exact infoHp) ?_)|(refine loadRowG rfl 60 (.tmp 12) rfl b12 rfl 60 (hpa H2) (0,0) R15.out Tryz.underlying60 rfl (by rw[hpa_size];exact infoHp) ?_)));go_ret;exact⟨yh,y',z',rfl,fun e=>HEQ.out e,by rw[HFR.out];exact HUP.out.1,HUP.out.2,HPF.out _ HB5.out⟩
theorem play_any (w0:World) (B:Nat) (y:Um) (s:Un) (z:Zu) (n:Nat) (W:World) (h:Ply w0 B y s z n W) (x:Xm) (hx:WfX x) (hi:InG x.g w0) (hn:n+2≤9000):Calls Tryz.prog 13 #[.pointer (some ⟨B,0,none⟩),.pointer (some ⟨z.p,0,none⟩),.agg (xca x)] W (PlyRet w0 B s z x n):=by
 by_cases h0:x.what=0
 ·exact play_take w0 B y s z n W h x hx hi hn h0
 by_cases h1:x.what=1
 ·exact play_pkt w0 B y s z n W h x hx hi hn h1
 by_cases h2:x.what=2
 ·exact play_tick w0 B y s z n W h x hx hi hn h2
 exact play_fail w0 B y s z n W h x hx hi hn h0 h1 h2
end Go.Proofs.YtomnpfbebimpkaaGreatDoor
