/-
  The walk of UnitAsks: what answers a barrier and a question.
-/
import Derived.Test.YtomnpfbebimpkaaGreatDoorUreLaw
import Derived.Test.YtomnpfbebimpkaaGreatDoorPackUniS
import Derived.Test.YtomnpfbebimpkaaGreatDoorSq
namespace Go.Proofs.YtomnpfbebimpkaaGreatDoor
set_option maxRecDepth 20000
open Go.RowKit
theorem builtUz0:Tryz.prog.built 30 []=some (zuca (nilZu 0 0)):=by kernel_rfl
theorem xclL (x:Xm):(xcl x).length=62:=by simp[xcl,gcl_len,hl]
theorem one_gm {us:List Gm} {m:Ms} (h:us.map (·.u)=[m]):∃g,us=[g]∧g.u=m:=by
 cases us with
 |nil=>cases h
 |cons g t=>cases t with
  |nil=>exact⟨g,rfl,(List.cons.inj h).1⟩
  |cons=>simp at h
structure OneA (W : World) (b o : Nat) (m : Ms) (g : Gm) : Prop where
  kind : W.cell? ⟨b, o, none⟩ = some (.int .i64 m.kind)
  txn : W.cell? ⟨b, o + 1, none⟩ = some (.int .i64 m.txn)
  rules : W.cell? ⟨b, o + 47, none⟩ = some (.slice g.q g.rs.length g.c)
theorem AnsL.one_at {B:Nat} {v:Value} {gs:List Gm} {m:Ms} {W:World} (h:AnsL B v gs W) (e:gs.map (·.u)=[m]):∃(b o c:Nat) (g:Gm),v= .slice (some ⟨b,o,none⟩) 1 c∧OneA W b o m g∧RLies (.slice g.q g.rs.length g.c) g.rs W∧g.rs.map (·.u)=m.rules:=by
 obtain⟨g,rfl,rfl⟩:=one_gm e;obtain⟨p,c,ev⟩:=h.1.form;subst ev;obtain⟨b,o,rfl,hrg⟩:=(h.1.lies okG).at (i:=0) (a:=g) rfl;have hn:=(h.2 g (by simp)).2.1.form;obtain⟨q',c',en⟩:=hn;have hg:g.n=g.rs.length:=(Value.slice.inj en).2.1;have hr:=(h.2 g (by simp)).inG.2;refine⟨b,o,c,g,rfl,⟨hrg 0 (.int .i64 g.kind) rfl,hrg 1 (.int .i64 g.txn) rfl,?_⟩,?_,rfl⟩
 ·rw[←hg];exact hrg 47 _ (gcl_tl g 13)
 ·rw[←hg];exact hr
theorem OneA.below {W W':World} {b o:Nat} {m:Ms} {g:Gm} (h:OneA W b o m g) (hb:Below W.heap.size W W'):OneA W' b o m g:=⟨by rw[hb.cell (World.block_lt_of_cell? _ _ h.kind)];exact h.kind,by rw[hb.cell (World.block_lt_of_cell? _ _ h.txn)];exact h.txn,by rw[hb.cell (World.block_lt_of_cell? _ _ h.rules)];exact h.rules⟩
set_option maxHeartbeats 80000000 in
set_option maxRecDepth 100000 in
theorem unitAsks_any (v0:Value) (k:List Xm) (hwk:∀x∈k,WfX x) (_:k.length≤140737488355328) (id:Int) (hid:0≤id∧id<4294967296) (w:World) (hk:XLies v0 k w) (ht:Tab w) (hz:0<w.heap.size):Calls Tryz.prog 9 #[v0,.int .u32 id] w fun e w'=>e= .returned (.bool true)∧Below w.heap.size w w':=by
 obtain⟨p1,c1,rfl⟩:=hk.1.form;have HK:=qH hk;have HWK:=qH hwk;have HZ:=qH hz;have HT:=qH ht;have HID:=qH (show okT id from⟨hid.1,by have:=hid.2;omega⟩);have HANS:=qH (fun(W:World) (hb:Below w.heap.size w W)=>answers13 W (ht.below hz hb) (Nat.lt_of_lt_of_le hz hb.size));have hwr:IntKind.i64.wrap id=id:=IntWalk.i64_in _ (by have:=hid.1;have:=hid.2;omega);obtain⟨n2,hn2⟩:∃n2,n2=k.length:=⟨_,rfl⟩;have HN2:=qH hn2;rw[←hn2] at HK ⊢;clear hk hwk ht hz hn2 hid;(go_enter Tryz.func9,Tryz.ntmps9);by_cases q1:40<n2
 ·have q1I:(40:Int)<(n2:Int):=(by omega);(go_wp2_with(go_at_call 11;refine(HANS.out w (Below.refl _ _)).mono ?_;rintro e w1 ⟨rfl,hb⟩));go_ret;exact⟨rfl,hb⟩
 have q1I:¬(40:Int)<(n2:Int):=(by omega);have HC:=qH (st_new 32 32 (by decide) w w (Below.refl _ _) HT.out HZ.out);(go_upto_region 4 with(go_at_call 10;refine HC.out.mono ?_;rintro e W1 ⟨rfl,ha,_⟩;refine Hid.out ?_));have HA:=qH ha;clear ha HC;generalize nilUm w.heap.size 32=y0 at*;generalize hA:w.heap.size=A at HA ⊢;have HAE:=qH hA;clear hA;refine qH ?_;(go_upto_region 5 with fail);go_loopg [6] n2 (fun q s6 wr=>∃(r:Nat) (y:Um) (s:Un),r+q=n2∧s6= .int .i64 r∧Stt w A y s (2*r) wr)
 case atStart=>exact⟨0,y0,_,by omega,rfl,HA.out⟩
 case round=>
  obtain⟨r,y,s,hr,rfl,hst⟩:=hrel;have HS:=qH hst;clear hst HA;by_cases hlt:r<n2
  ·have hltI:(r:Int)<(n2:Int):=(by omega);obtain⟨x,hx⟩:=lt_some (l:=k) (i:=r) (by have:=HN2.out;omega);obtain⟨b2,o2,rfl,_⟩:=HK.out.1.at hx;have HX:=qH hx;have HIX:=qH (HK.out.2 x (List.mem_of_getElem? hx));have HWX:=qH (HWK.out x (List.mem_of_getElem? hx));clear hx;have HR:=qH ((HK.out.1.below okE HS.out.bel).at' HX.out);have HLI:=qH (light_any x wr);cases hli:lightB x
   ·rw[hli] at HLI;clear hli;(go_wp2_with(first|(refine wpList_load_mid rfl 44 _ rfl b2 (o2+r*62) rfl (xcl x) _ HR.out Tryz.underlying44 rfl (by rw[xclL];exact infoX) ?_)|(go_at_call 12;refine HLI.out.mono ?_;rintro e W2 ⟨rfl,hb⟩;have HS2:=qH (HS.out.below hb);clear hb HLI)));go_roundg (n2 - (r+1))
    case measure=>omega
    case rel=>exact⟨r+1,y,s,by omega,by go_num,HS2.out.mono (by omega) (by omega)⟩
   ·rw[hli] at HLI;clear hli;(go_upto_region 8 with(first|(refine wpList_load_mid rfl 44 _ rfl b2 (o2+r*62) rfl (xcl x) _ HR.out Tryz.underlying44 rfl (by rw[xclL];exact infoX) ?_)|(go_at_call 12;refine HLI.out.mono ?_;rintro e W2 ⟨rfl,hb⟩;refine Hid.out ?_)));have HP2:=qH (Ply.new (r:=0) (HS.out.below hb) (below1 W2 (.cells (zuca (nilZu 0 0)) 30)) (Blk.new W2 (zuca (nilZu 0 0)) 30));clear hb HLI HS HR;have HR:=qH ((HK.out.1.below okE HP2.out.u.bel).at' HX.out);have HPL:=qH (play_any w A y s _ _ _ HP2.out x HWX.out HIX.out (by omega));refine qH ?_;(go_wp2_with(first|(refine wpBuilt0 rfl rfl builtUz0 ?_)|(refine wpList_load_mid rfl 44 _ rfl b2 (o2+r*62) rfl (xcl x) _ HR.out Tryz.underlying44 rfl (by rw[xclL];exact infoX) ?_)|(go_at_call 13;refine HPL.out.mono ?_;rintro e W3 ⟨bp,y3,z3,rfl,_,_,_,hp3⟩;have HS3:=qH hp3.u;clear hp3 HPL HP2 HR)));go_roundg (n2 - (r+1))
    case measure=>omega
    case rel=>exact⟨r+1,y3,_,by omega,by go_num,HS3.out.mono (by omega) (by omega)⟩
  ·have hltI:¬(r:Int)<(n2:Int):=(by omega);have hrn:r=n2:=(by omega);have HCB:=qH (st_base HS.out);(go_upto_region 10 with(go_at_call 15;refine HCB.out.mono ?_;rintro e W1 ⟨v1,L1,rfl,hu1,ho1,hb1⟩;refine Hid.out ?_));have HS1:=qH (HS.out.below hb1);have HU1:=qH hu1;have HO1:=qH ho1;clear hu1 ho1 hb1 HCB HS;have HC:=qH (st_end HS1.out 2 id (by omega));rw[takeA_bar (snd_endM HID.out (by omega)) rfl,takeS_oth (s:=s) (m:=endM 2 id) (show(2:Int)≠1 by decide) (show(2:Int)≠3 by decide) (show(2:Int)≠4 by decide)] at HC;refine qH ?_;(go_upto_region 11 with(first|(refine wpBuilt2 rfl _ _ rfl _ _ (builtEnd 2 id) rfl (by simp[hwr]) ?_)|(go_at_call 19;refine HC.out.mono ?_;rintro e W2 ⟨y2,v2,gs,rfl,hgs,hans,hst2,hfr⟩;refine Hid.out ?_)));have HS2:=qH hst2;have HO2:=qH (HO1.out.fr hfr.fr HS1.out.uni.muts);have HX2:=qH hans;have HG2:=qH hgs;clear hgs hans hst2 hfr HC HS1 HO1;have HC:=qH (st_end HS2.out 5 id (by omega));rw[takeA_ask (snd_endM HID.out (by omega)) rfl,takeS_oth (s:=s) (m:=endM 5 id) (show(5:Int)≠1 by decide) (show(5:Int)≠3 by decide) (show(5:Int)≠4 by decide)] at HC;refine qH ?_;(go_upto_region 12 with(first|(refine wpBuilt2 rfl _ _ rfl _ _ (builtEnd 5 id) rfl (by simp[hwr]) ?_)|(go_at_call 19;refine HC.out.mono ?_;rintro e W3 ⟨y3,v3,gs3,rfl,hgs,hans,hst3,hfr⟩;refine Hid.out ?_)));have HS3:=qH hst3;have HO3:=qH (HO2.out.fr hfr.fr HS2.out.uni.muts);have HX3:=qH (HX2.out.fr hfr.fr HS2.out.uni.muts);have HY3:=qH hans;have HG3:=qH hgs;clear hgs hans hst3 hfr HC HS2 HO2 HX2;obtain⟨bx,ox,cx,gx,rfl,hx1,_,_⟩:=HX3.out.one_at HG2.out;obtain⟨by_,oy,cy,gy,rfl,hy1,hy2,hy3⟩:=HY3.out.one_at HG3.out;have HXA:=qH hx1;have HYA:=qH hy1;have HYR:=qH hy2;have HYU:=qH hy3;clear hx1 hy1 hy2 hy3 HX3 HY3 HG2 HG3;have HAN:=qH (HANS.out W3 HS3.out.bel);have HBL:=qH HS3.out.base_len;obtain⟨pb,cb,eb⟩:=HO3.out.1.form;subst eb;refine qH ?_;(go_wp2_with(first|((go_at_call 11;refine HAN.out.mono ?_;rintro e u1 ⟨rfl,hb⟩);have SA:=qH (HS3.out.below hb);have OA:=qH (HO3.out.below hb);have hxa:=HXA.out.below hb;have hya:=HYA.out.below hb;have gx0:u1.cell? ⟨bx,ox,none⟩=some (.int .i64 7):=hxa.kind;have gx1:u1.cell? ⟨bx,ox+1,none⟩=some (.int .i64 id):=hxa.txn;have gy0:u1.cell? ⟨by_,oy,none⟩=some (.int .i64 10):=hya.kind;have gy1:u1.cell? ⟨by_,oy+1,none⟩=some (.int .i64 id):=hya.txn;have gy2:u1.cell? ⟨by_,oy+47,none⟩=some (.slice gy.q gy.rs.length gy.c):=hya.rules;have HQ1:=qH (same_us HBL.out.1 HBL.out.2 HYU.out HU1.out u1 (HYR.out.below hb) OA.out.lies);clear hb HAN hxa hya)|(go_at_call 14;refine HQ1.out.mono ?_;rintro e u2 ⟨rfl,hb⟩;have SB:=qH (SA.out.below hb);have OB:=qH (OA.out.below hb);have HCB:=qH (st_base SB.out);clear hb HQ1)|(go_at_call 15;refine HCB.out.mono ?_;rintro e u3 ⟨vb,Lb,rfl,hub,hob,hb⟩;have SC:=qH (SB.out.below hb);have HQ2:=qH (same_us HBL.out.1 HBL.out.2 hub HU1.out u3 hob.lies (OB.out.below hb).lies);clear hub hob hb HCB)|(go_at_call 14;refine HQ2.out.mono ?_;rintro e u4 ⟨rfl,hb⟩;have SD:=qH (SC.out.below hb);clear hb HQ2)));go_ret;exact⟨rfl,SD.out.bel⟩
end Go.Proofs.YtomnpfbebimpkaaGreatDoor
