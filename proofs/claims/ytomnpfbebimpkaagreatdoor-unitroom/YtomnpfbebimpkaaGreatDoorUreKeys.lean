/-
  The reference's View and its number of keys.
-/
import Derived.Test.YtomnpfbebimpkaaGreatDoorPackUniF
import Derived.Test.YtomnpfbebimpkaaGreatDoorModRAdd
import Derived.Test.YtomnpfbebimpkaaGreatDoorModROth
import Derived.Test.YtomnpfbebimpkaaGreatDoorSq
import Derived.Test.YtomnpfbebimpkaaGreatDoorLapRt
import Derived.Test.YtomnpfbebimpkaaGreatDoorLapRHit
import Derived.Test.YtomnpfbebimpkaaGreatDoorPackUniK
namespace Go.Proofs.YtomnpfbebimpkaaGreatDoor
set_option maxRecDepth 20000
open Go.RowKit
set_option maxRecDepth 100000 in
set_option maxHeartbeats 4000000 in
theorem rapply_own (v:Value) (l:List Rm) (hlen:l.length≤9000) (hwl:WfRL l) (m:Mm) (hw:WfM m.u) (room:Int) (w:World) (hl:RLies v l w) (ha:InM m w) (ht:Tab w) (hz:0<w.heap.size):Calls Tryz.prog 26 #[v,.agg (mca m),.int .i64 room] w (RaO w l m room):=by
 cases htb:tabU (l.map (·.u))
 ·obtain⟨p,cap,rfl⟩:=hl.1.form;have HR:=qH (show applyE (l.map (·.u)) m.u room=2 by unfold applyE;rw[if_pos (by rw[htb];rfl)]);have HS:=qH (show ApS w (.slice p l.length cap) l m (w.alloc (.cells (mca m) 40)) from⟨hl.below (below1 _ _),ha.below (below1 _ _),Blk.new _ _ _,(Env.start ht hz).alloc _⟩);have HT:=qH (rtable_b _ l (by omega) hwl _ HS.out.1);rw[tabB_tabU,htb] at HT;clear htb hl ha ht hwl hw;(go_enter Tryz.func26,Tryz.ntmps26);(go_wp2_with(go_at_call 22;refine HT.out.mono ?_;rintro e w1 ⟨rfl,hw1⟩));(go_ret2);exact RaO.no HR.out (by decide) (HS.out.2.2.2.below hw1).kept
 ·cases hs:sndM m.u
  ·obtain⟨p,cap,rfl⟩:=hl.1.form;have HR:=qH (show applyE (l.map (·.u)) m.u room=2 by unfold applyE;rw[if_pos (by rw[hs,Bool.and_false])]);have HS:=qH (show ApS w (.slice p l.length cap) l m (w.alloc (.cells (mca m) 40)) from⟨hl.below (below1 _ _),ha.below (below1 _ _),Blk.new _ _ _,(Env.start ht hz).alloc _⟩);have HT:=qH (rtable_b _ l (by omega) hwl _ HS.out.1);rw[tabB_tabU,htb] at HT;have HMo:=qH (fun(W:World) (hS:ApS w (.slice p l.length cap) l m W)=>rmod_any m hw W hS.2.1);rw[hs] at HMo;clear htb hs hl ha ht hwl hw;(go_enter Tryz.func26,Tryz.ntmps26);(go_wp2_with(go_at_call 22;refine HT.out.mono ?_;rintro e w1 ⟨rfl,hw1⟩;refine Hid.out ?_));have HS1:=qH (ApS.below hw1 HS.out);have RM:=qH HS1.out.2.2.1;have HMo1:=qH (HMo.out _ HS1.out);clear hw1 HS HT HMo;refine qH ?_;(go_wp2_with(first|(refine loadRowG rfl 40 _ rfl w.heap.size rfl 40 (mca m) (0,0) RM.out Tryz.underlying40 rfl infoM ?_)|(go_at_call 25;refine HMo1.out.mono ?_;rintro e w2 ⟨rfl,hw2⟩)));(go_ret2);exact RaO.no HR.out (by decide) (HS1.out.2.2.2.below hw2).kept
  ·by_cases hk:m.u.kind=1
   ·exact rapply_add v l hlen hwl m hw hk hs htb room w hl ha ht hz
   ·exact rapply_oth v l hlen hwl m hw hk hs htb room w hl ha ht hz
end Go.Proofs.YtomnpfbebimpkaaGreatDoor

namespace Go.Proofs.YtomnpfbebimpkaaGreatDoor
set_option maxRecDepth 20000
open Go.RowKit
structure Zt where
  id : Int
  q : Option Addr
  n : Nat
  c : Nat
  ms : List Mm
  ref : Bool
def Zt.v (t : Zt) : Value := .slice t.q t.n t.c
def zcl (t : Zt) : List Value := [.int .i64 t.id, .slice t.q t.n t.c, .bool t.ref]
def Zt.tx (t : Zt) : Tx := ⟨t.id, t.ms.map (·.u), t.ref⟩
abbrev KO : Kd Zt := ⟨52, 28, 3, 40, zcl⟩
theorem okO:KO.Ok where
 pos:=by decide
 len:=fun _=>rfl
 one:=fun a u hu=>by simp only[zcl,List.mem_cons,List.not_mem_nil,or_false] at hu;rcases hu with rfl|rfl|rfl<;>rfl
 under:=Tryz.underlying28
 info:=infoOf (by kernel_rfl) (by kernel_rfl) (by kernel_rfl)
 small:=by decide
 room1:=by decide
theorem notM:KO.T∈mutT:=by decide
structure Zu where
  p : Nat
  room : Int
  vb : Value
  L : List Rm
  vo : Value
  ts : List Zt
  fail : Bool
def Zu.un (z : Zu) : Un := ⟨z.room, z.L.map (·.u), z.ts.map (·.tx), z.fail⟩
def zuca (z : Zu) : Array Value := #[.int .i64 z.room, z.vb, z.vo, .bool z.fail]
def mutsZ (ts : List Zt) : List Nat := ts.flatMap fun t => ownL t.v
def Zu.muts (z : Zu) : List Nat := z.p :: (ownL z.vo ++ mutsZ z.ts)
structure RefA (w0 : World) (z : Zu) (W : World) : Prop where
  box : Blk z.p (zuca z) 30 W
  ge : w0.heap.size ≤ z.p
  base : KOwns KR w0.heap.size z.vb z.L W
  acts : ∀ y ∈ z.L, InA y w0
  opn : KOwns KO w0.heap.size z.vo z.ts W
  txs : ∀ t ∈ z.ts, KOwns KM w0.heap.size t.v t.ms W
  mods : ∀ t ∈ z.ts, ∀ m ∈ t.ms, InM m w0
  bel : Below w0.heap.size w0 W
section
variable {w0 W W' : World} {z z' : Zu} {M : List Nat} {g : Nat} {t : Zt}
theorem mem_mutsZ {ts:List Zt}:g∈mutsZ ts↔∃t∈ts,g∈ownL t.v:=List.mem_flatMap
theorem RefA.below (h:RefA w0 z W) (hb:Below W.heap.size W W'):RefA w0 z W':=⟨h.box.below hb,h.ge,h.base.below hb,h.acts,h.opn.below hb,fun t ht=>(h.txs t ht).below hb,h.mods,h.bel.trans (hb.mono h.bel.size)⟩
theorem RefA.typs (h:RefA w0 z W):∀g∈z.muts,w0.heap.size≤g∧∃T∈mutT,Typ W g T:=fun g hg=>by
 rcases List.mem_cons.1 hg with rfl|hg
 ·exact⟨h.ge,30,by decide,h.box.typ⟩
 ·rcases List.mem_append.1 hg with hg|hg
  ·have e:=mem_ownL.1 hg;exact⟨(h.opn.blkRange e).1,52,by decide,h.opn.typ e⟩
  ·obtain⟨t,ht,hg⟩:=mem_mutsZ.1 hg;have e:=mem_ownL.1 hg;exact⟨((h.txs t ht).blkRange e).1,40,by decide,(h.txs t ht).typ e⟩
theorem RefA.muts (h:RefA w0 z W):Muts z.muts W:=fun g hg=>(h.typs g hg).2
theorem RefA.from (h:RefA w0 z W):∀g∈z.muts,w0.heap.size≤g:=fun g hg=>(h.typs g hg).1
theorem RefA.fr (h:RefA w0 z W) (k:Fr M W W') (hM:Muts M W) (hB:Below w0.heap.size w0 W') (hn:∀g∈z.muts,g∉M):RefA w0 z W':=⟨k.blk h.box (hn _ (by simp[Zu.muts])),h.ge,k.ownsT hM h.base notR,h.acts,k.owns h.opn fun g hg=>hn g (by simp[Zu.muts,mem_ownL,hg]),fun t ht=>k.owns (h.txs t ht) fun g hg=>hn g (by
 simp only[Zu.muts,List.mem_cons,List.mem_append];exact .inr (.inr (mem_mutsZ.2 ⟨t,ht,mem_ownL.2 hg⟩))),h.mods,hB⟩
theorem RefA.room_ (h:RefA w0 z W):W.cell? ⟨z.p,0,none⟩=some (.int .i64 z.room):=(cell_of_row _ z.p 0 _ _ _ h.box).trans rfl
theorem RefA.vb_ (h:RefA w0 z W):W.cell? ⟨z.p,1,none⟩=some z.vb:=(cell_of_row _ z.p 1 _ _ _ h.box).trans rfl
theorem RefA.vo_ (h:RefA w0 z W):W.cell? ⟨z.p,2,none⟩=some z.vo:=(cell_of_row _ z.p 2 _ _ _ h.box).trans rfl
theorem RefA.fail_ (h:RefA w0 z W):W.cell? ⟨z.p,3,none⟩=some (.bool z.fail):=(cell_of_row _ z.p 3 _ _ _ h.box).trans rfl
theorem RefA.lies (h:RefA w0 z W):RLies z.vb z.L W:=⟨h.base.lies okR,fun y hy=>(h.acts y hy).below h.bel⟩
theorem RefA.mlies (h:RefA w0 z W) (ht:t∈z.ts):MLies t.v t.ms W:=⟨(h.txs t ht).lies okM,fun m hm=>(h.mods t ht m hm).below h.bel⟩
structure ZFr (z z' : Zu) (W W' : World) : Prop where
  fr : Fr z.muts W W'
  new : ∀ g ∈ z'.muts, g ∈ z.muts ∨ W.heap.size ≤ g
theorem ZFr.of (z:Zu) (hb:Below W.heap.size W W'):ZFr z z W W':=⟨Fr.of hb,fun _ h=> .inl h⟩
theorem ZFr.trans {z'':Zu} {W'':World} (h:ZFr z z' W W') (k:ZFr z' z'' W' W''):ZFr z z'' W W'':=⟨h.fr.trans k.fr h.new,fun g hg=>by
 rcases k.new g hg with q|q
 ·exact h.new g q
 ·exact .inr (by have:=h.fr.size;omega)⟩
end
theorem rapply_at (B:Nat) (v:Value) (l:List Rm) (hlen:l.length≤9000) (hwl:WfRL l) (m:Mm) (hw:WfM m.u) (w0 w:World) (hb:Below w0.heap.size w0 w) (hl:KOwns KR B v l w) (hB:B≤w.heap.size) (hla:∀y∈l,InA y w0) (ha:InM m w0) (ht:Tab w) (hz:0<w.heap.size) (k:Int) (us:List Ru) (hk:applyE (l.map (·.u)) m.u bigI=k) (hu:applyV (l.map (·.u)) m.u bigI=us):Calls Tryz.prog 26 #[v,.agg (mca m),.int .i64 1073741824] w fun e w'=>∃v' L,e= .returned (.tuple #[v',.int .i64 k])∧L.map (·.u)=us∧KOwns KR B v' L w'∧(∀y∈L,InA y w0)∧Below w.heap.size w w':=by
 have hE:applyE (l.map (·.u)) m.u 1073741824=applyE (l.map (·.u)) m.u bigI:=applyE_room (by rw[List.length_map];omega) (by rw[List.length_map];unfold bigI;omega);have hV:applyV (l.map (·.u)) m.u 1073741824=applyV (l.map (·.u)) m.u bigI:=(by unfold applyV;rw[hE]);refine(rapply_own v l hlen hwl m hw 1073741824 w ⟨hl.lies okR,fun y hy=>(hla y hy).below hb⟩ (ha.below hb) ht hz).mono ?_;rintro e w' ⟨v',L,rfl,hL,ho,hf,hbw⟩;exact⟨v',L,by rw[hE,hk],by rw[hL,hV,hu],ho.mono hB,fun y hy=>hf y hy w0 hla ha,hbw⟩
def RLay (B : Nat) (w0 w : World) (us : List Ru) (e : Ending) (w' : World) : Prop := ∃ v L, e = .returned v ∧ L.map (·.u) = us ∧ KOwns KR B v L w' ∧ (∀ y ∈ L, InA y w0) ∧ Below w.heap.size w w'
set_option maxHeartbeats 2000000 in
set_option maxRecDepth 100000 in
theorem rlaid_any (B:Nat) (v vm:Value) (l:List Rm) (ms:List Mm) (hlen:l.length+ms.length≤9000) (hwl:WfRL l) (hwm:WfML ms) (w0 w:World) (hb:Below w0.heap.size w0 w) (hl:KOwns KR B v l w) (hB:B≤w.heap.size) (hla:∀y∈l,InA y w0) (hm:KLies KM vm ms w) (hi:∀m∈ms,InM m w0) (ht:Tab w) (hz:0<w.heap.size):Calls Tryz.prog 37 #[v,vm] w (RLay B w0 w (layL (l.map (·.u)) (ms.map (·.u)))):=by
 obtain⟨p1,c1,rfl⟩:=hm.form;have HM:=qH hm;have HI:=qH hi;have HL:=qH (And.intro hl hla);have HW:=qH (And.intro (WfUL.of hwl) hwm);have HE:=qH (Env.start ht hz);have HB0:=qH hb;have HBB:=qH hB;have HLN:=qH hlen;have hml:ms.length≤9000:=(by omega);obtain⟨n,hn⟩:∃n,n=ms.length:=⟨_,rfl⟩;have HN:=qH hn;rw[←hn] at hml HM ⊢;clear hm hi hl hla hwl hwm ht hB hlen hn hb;(go_enter Tryz.func37,Tryz.ntmps37);(go_wp2_with fail);go_loopg [0,5] n (fun k s0 s5 wr=>∃(r:Nat) (L:List Rm),r+k=n∧s5= .int .i64 r∧(KOwns KR B s0 L wr∧∀y∈L,InA y w0)∧L.map (·.u)=layL (l.map (·.u)) ((ms.take r).map (·.u))∧Env w wr)
 case atStart=>exact⟨0,l,by omega,rfl,HL.out,rfl,HE.out⟩
 case round=>
  clear HL HE;obtain⟨r,L,hr,rfl,ho,hu,he⟩:=hrel;have HO:=qH ho;have HUL:=qH hu;have HE:=qH he;obtain⟨p0,c0,e0⟩:=ho.1.form;subst e0;clear ho hu he;by_cases hlt:r<n
  ·have hltI:(r:Int)<(n:Int):=(by omega);obtain⟨m,hm⟩:=lt_some (l:=ms) (i:=r) (by have:=HN.out;omega);obtain⟨b,o,rfl,hrg⟩:=(HM.out.below okM HE.out.kept).at hm;have HR:=qH hrg;have HI1:=qH (HI.out m (List.mem_of_getElem? hm));have HWm:=qH (HW.out.2 m (List.mem_of_getElem? hm));have HTK:=qH (show layL (l.map (·.u)) ((ms.take (r+1)).map (·.u))=lay1 (L.map (·.u)) m.u by rw[List.take_add_one,hm,List.map_append,HUL.out];exact layL_snoc _ _ _);have HWL:=qH (show WfRL L from(layL_wf HW.out.1 fun y hy=>by obtain⟨z,hz,rfl⟩:=List.mem_map.1 hy;exact HW.out.2 z (List.mem_of_mem_take hz)).rl HUL.out);have HLL:=qH (show L.length≤9000 by have h1:=congrArg List.length HUL.out;have h2:=layL_len ((ms.take r).map (·.u)) (l.map (·.u));simp only[List.length_map,List.length_take] at h1 h2;have:=HLN.out;omega);have HBw:=qH (HB0.out.trans (HE.out.kept.mono HB0.out.size));have HBe:=qH (show B≤wr.heap.size by have:=HBB.out;have:=HE.out.kept.size;omega);clear hrg hm;by_cases hk:applyE (L.map (·.u)) m.u bigI=0
   ·have HA:=qH (rapply_at B (.slice p0 L.length c0) L HLL.out HWL.out m HWm.out w0 wr HBw.out HO.out.1 HBe.out HO.out.2 HI1.out HE.out.tab HE.out.lt 0 (lay1 (L.map (·.u)) m.u) hk (by unfold lay1;rw[if_pos hk];exact appV_ok hk));clear hk;(go_upto_region 5 with(first|(refine wpList_load_mid rfl 40 _ rfl b (o+r*31) rfl (mcl m) _ HR.out Tryz.underlying40 rfl infoMod ?_)|(go_at_call 26;refine HA.out.mono ?_;rintro e w2 ⟨v2,L2,rfl,hu2,ho2,hf2,hb2⟩;refine Hid.out ?_)));have HO2:=qH (And.intro ho2 hf2);have HU2:=qH (hu2.trans HTK.out.symm);have HE2:=qH (HE.out.below hb2);obtain⟨p2,c2,e2⟩:=ho2.form;subst e2;clear hu2 ho2 hf2 hb2 HA HO HE HR HI1;refine qH ?_;(go_wp2_with fail);go_roundg (n - (r+1))
    case measure=>omega
    case rel=>exact⟨r+1,L2,by omega,by go_num,HO2.out,HU2.out,HE2.out⟩
   ·have HK:=qH (show L.map (·.u)=layL (l.map (·.u)) ((ms.take (r+1)).map (·.u)) by rw[HTK.out];unfold lay1;rw[if_neg hk]);obtain⟨kk,hkk⟩:∃kk,kk=applyE (L.map (·.u)) m.u bigI:=⟨_,rfl⟩;rw[←hkk] at hk;have hkf:(kk==0)=false:=(by simpa using hk);have HA:=qH (rapply_at B (.slice p0 L.length c0) L HLL.out HWL.out m HWm.out w0 wr HBw.out HO.out.1 HBe.out HO.out.2 HI1.out HE.out.tab HE.out.lt kk _ hkk.symm rfl);clear hkk hk;(go_upto_region 5 with(first|(refine wpList_load_mid rfl 40 _ rfl b (o+r*31) rfl (mcl m) _ HR.out Tryz.underlying40 rfl infoMod ?_)|(go_at_call 26;refine HA.out.mono ?_;rintro e w2 ⟨v2,L2,rfl,hu2,ho2,hf2,hb2⟩;refine Hid.out ?_)));have HO2:=qH (show KOwns KR B (.slice p0 L.length c0) L w2∧∀y∈L,InA y w0 from⟨HO.out.1.below hb2,HO.out.2⟩);have HE2:=qH (HE.out.below hb2);obtain⟨p2,c2,e2⟩:=ho2.form;subst e2;clear hu2 ho2 hf2 hb2 HA HO HE HR HI1;refine qH ?_;(go_wp2_with fail);go_roundg (n - (r+1))
    case measure=>omega
    case rel=>exact⟨r+1,L,by omega,by go_num,HO2.out,HK.out,HE2.out⟩
  ·have hltI:¬(r:Int)<(n:Int):=(by omega);have HF:=qH (show ms.take r=ms from List.take_of_length_le (by have:=HN.out;omega));(go_wp2_with fail);go_ret;exact⟨_,L,rfl,by rw[HUL.out,HF.out],HO.out.1,HO.out.2,HE.out.kept⟩
end Go.Proofs.YtomnpfbebimpkaaGreatDoor

namespace Go.Proofs.YtomnpfbebimpkaaGreatDoor
set_option maxRecDepth 20000
open Go.RowKit
structure FitZ (n : Nat) (z : Zu) : Prop where
  fit : Fit n z.un
  n : n ≤ 9000
def chgZ (ts : List Zt) : List Mm := ts.flatMap (·.ms)
theorem chgZ_u (ts:List Zt):(chgZ ts).map (·.u)=chgO (ts.map (·.tx)):=by
 induction ts with
 |nil=>rfl
 |cons t ts ih=>show((t::ts).flatMap (·.ms)).map (·.u)=((t::ts).map (·.tx)).flatMap (·.list);rw[List.flatMap_cons,List.map_append,List.map_cons,List.flatMap_cons];congr 1
theorem chgZ_take (ts:List Zt) (r:Nat) (t:Zt) (h:ts[r]? =some t):chgZ (ts.take (r+1))=chgZ (ts.take r)++t.ms:=by
 unfold chgZ;rw[List.take_add_one,h,List.flatMap_append];simp
theorem chgZ_len (ts:List Zt) (r:Nat):(chgZ (ts.take r)).length≤(chgZ ts).length:=by
 have e:chgZ ts=chgZ (ts.take r)++chgZ (ts.drop r):=(by unfold chgZ;rw[←List.flatMap_append,List.take_append_drop]);rw[e,List.length_append];omega
section
variable {n : Nat} {z : Zu}
theorem FitZ.wfR (h:FitZ n z):WfRL z.L:=(show WfUL (z.L.map (·.u)) from h.fit.base).rl rfl
theorem FitZ.wfM (h:FitZ n z):WfML (chgZ z.ts):=fun m hm=>h.fit.chg m.u (by
 show m.u∈chgO (z.ts.map (·.tx));rw[←chgZ_u];exact List.mem_map_of_mem hm)
theorem FitZ.len (h:FitZ n z):z.L.length+(chgZ z.ts).length≤9000∧z.ts.length≤9000:=by
 have h1:(z.L.map (·.u)).length+(chgO (z.ts.map (·.tx))).length≤n:=h.fit.size;have h2:(z.ts.map (·.tx)).length≤n:=h.fit.opn;rw[List.length_map] at h1 h2;rw[←chgZ_u,List.length_map] at h1;have:=h.n;omega
end
theorem WfML.sub {l k:List Mm} (h:WfML l) (hs:∀m∈k,m∈l):WfML k:=fun m hm=>h m (hs m hm)
theorem mem_chgZ {ts:List Zt} {t:Zt} {m:Mm} (ht:t∈ts) (hm:m∈t.ms):m∈chgZ ts:=List.mem_flatMap.2 ⟨t,ht,hm⟩
theorem view_step (us:List Ru) (ts:List Zt) (r:Nat) (t:Zt) (h:ts[r]? =some t):viewO us ((ts.take (r+1)).map (·.tx))=layL (viewO us ((ts.take r).map (·.tx))) (t.ms.map (·.u)):=by
 unfold viewO;rw[←chgZ_u,←chgZ_u,chgZ_take ts r t h,List.map_append,layL_append]
set_option maxHeartbeats 2000000 in
set_option maxRecDepth 100000 in
theorem rview_any (z:Zu) (k:Nat) (hF:FitZ k z) (w0 w:World) (hZ:RefA w0 z w) (ht:Tab w) (hz:0<w.heap.size):Calls Tryz.prog 17 #[.pointer (some ⟨z.p,0,none⟩)] w (RLay w0.heap.size w0 w z.un.view):=by
 obtain⟨pb,cb,hvb⟩:=hZ.base.form;obtain⟨po,co,hvo⟩:=hZ.opn.form;have HVB:=qH hvb;have HVO:=qH hvo;have HZ:=qH hZ;have HF:=qH hF;have HE:=qH (Env.start ht hz);have hl2:z.ts.length≤9000:=hF.len.2;have c1:w.cell? ⟨z.p,1,none⟩=some (.slice pb z.L.length cb):=(by rw[←HVB.out];exact hZ.vb_);clear hZ hvb hvo hF ht;obtain⟨n,hn⟩:∃n,n=z.ts.length:=⟨_,rfl⟩;have HN:=qH hn;rw[←hn] at hl2;clear hn;(go_enter Tryz.func17,Tryz.ntmps17);(go_wp2_with fail);clear c1;go_loopg [3,4] n (fun k s3 s4 wr=>∃(r:Nat) (L:List Rm),r+k=n∧s4= .int .i64 r∧(KOwns KR w0.heap.size s3 L wr∧∀y∈L,InA y w0)∧L.map (·.u)=viewO (z.L.map (·.u)) ((z.ts.take r).map (·.tx))∧Env w wr)
 case atStart=>exact⟨0,z.L,by omega,rfl,⟨by rw[←HVB.out];exact HZ.out.base,HZ.out.acts⟩,rfl,HE.out⟩
 case round=>
  clear HE;obtain⟨r,L,hr,rfl,ho,hu,he⟩:=hrel;have HO:=qH ho;have HUL:=qH hu;have HE:=qH he;have HZr:=qH (HZ.out.below he.kept);have c2:wr.cell? ⟨z.p,2,none⟩=some (.slice po n co):=(by rw[HN.out,←HVO.out];exact HZr.out.vo_);obtain⟨p0,c0,e0⟩:=ho.1.form;subst e0;clear ho hu he;by_cases hlt:r<n
  ·have hltI:(r:Int)<(n:Int):=(by omega);obtain⟨t,ht⟩:=lt_some (l:=z.ts) (i:=r) (by have:=HN.out;omega);have HT:=qH ht;have hmem:=List.mem_of_getElem? ht;obtain⟨b,o,rfl,hrg⟩:=(show KLies KO (.slice po n co) z.ts wr by rw[HN.out,←HVO.out];exact HZr.out.opn.lies okO).at (i:=r) (a:=t) ht;have k1:wr.cell? ⟨b,o+r*3+1,none⟩=some (.slice t.q t.n t.c):=hrg 1 _ rfl;have HTK:=qH (view_step (z.L.map (·.u)) z.ts r t ht);have HWU:=qH (show WfUL (L.map (·.u)) by rw[HUL.out];refine layL_wf HF.out.fit.base fun m hm=>HF.out.fit.chg m ?_;obtain⟨x,hx,h2⟩:=List.mem_flatMap.1 hm;obtain⟨y,hy,rfl⟩:=List.mem_map.1 hx;exact List.mem_flatMap.2 ⟨y.tx,List.mem_map_of_mem (List.mem_of_mem_take hy),h2⟩);have HWM:=qH (show WfML t.ms from HF.out.wfM.sub fun m hm=>mem_chgZ hmem hm);have HLL:=qH (show L.length+t.ms.length≤9000 by have h1:=congrArg List.length HUL.out;have h2:=layL_len (chgO ((z.ts.take r).map (·.tx))) (z.L.map (·.u));have h3:=chgZ_len z.ts (r+1);rw[chgZ_take z.ts r t ht,List.length_append] at h3;rw[←chgZ_u,List.length_map,List.length_map] at h2;rw[List.length_map] at h1;have h4:(viewO (z.L.map (·.u)) ((z.ts.take r).map (·.tx))).length≤z.L.length+(chgZ (z.ts.take r)).length:=(by show(layL (z.L.map (·.u)) (chgO ((z.ts.take r).map (·.tx)))).length≤_;rw[←chgZ_u];exact h2);have:=HF.out.len.1;omega);have HA:=qH (rlaid_any w0.heap.size (.slice p0 L.length c0) (.slice t.q t.n t.c) L t.ms HLL.out (HWU.out.rl rfl) HWM.out w0 wr HZr.out.bel HO.out.1 HZr.out.bel.size HO.out.2 (HZr.out.mlies hmem).1 (HZ.out.mods t hmem) HE.out.tab HE.out.lt);clear hrg ht hmem;(go_upto_region 4 with(go_at_call 37;refine HA.out.mono ?_;rintro e w2 ⟨v2,L2,rfl,hu2,ho2,hf2,hb2⟩;refine Hid.out ?_));have HO2:=qH (And.intro ho2 hf2);have HU2:=qH (hu2.trans ((congrArg (fun us=>layL us (t.ms.map (·.u))) HUL.out).trans HTK.out.symm));have HE2:=qH (HE.out.below hb2);obtain⟨p2,d2,e2⟩:=ho2.form;subst e2;clear hu2 ho2 hf2 hb2 HA HO HE HZr HUL HTK c2 k1;refine qH ?_;(go_wp2_with fail);go_roundg (n - (r+1))
   case measure=>omega
   case rel=>exact⟨r+1,L2,by omega,by go_num,HO2.out,HU2.out,HE2.out⟩
  ·have hltI:¬(r:Int)<(n:Int):=(by omega);have HF2:=qH (show z.ts.take r=z.ts from List.take_of_length_le (by have:=HN.out;omega));(go_wp2_with fail);go_ret;exact⟨_,L,rfl,by rw[HUL.out,HF2.out];rfl,HO.out.1,HO.out.2,HE.out.kept⟩
def kyZ (m : Mm) : Rm := ⟨kyU m.u, none, 0, 0⟩
theorem builtKr (m:Nat→Int) (p:Int):Tryz.prog.built 88 [(0,.agg (cc m)),(1,.int .i64 p)]=some (rca ⟨⟨m,p,[],0,0,0,0,0,0⟩,none,0,0⟩):=by kernel_rfl
theorem execBuildKr {a:Act} {oi:Oper} {w:World} {x y:Operand} (ho:oi.op= .build 88 #[(0,x),(1,y)]) (m:Nat→Int) (p:Int) (hx:a.eval x= .agg (cc m)) (hy:a.eval y= .int .i64 p):(execOp a.eval oi).run Tryz.prog w= .ok (.value (.agg (rca ⟨⟨m,p,[],0,0,0,0,0,0⟩,none,0,0⟩))) w:=by
 have e:(Instr.build 88 #[(0,.agg (cc m)),(1,.int .i64 p)]).run Tryz.prog w= .ok (.agg (rca ⟨⟨m,p,[],0,0,0,0,0,0⟩,none,0,0⟩)) w:=run_build w _ _ _ (builtKr m p);unfold execOp;simp only[ho,List.map_toArray,List.map_cons,List.map_nil,hx,hy,Sem.run_bind,e,Result.andThen_ok,Sem.run_pure]
theorem ne_RM:KR.T≠KM.T:=by decide
theorem ne_MR:KM.T≠KR.T:=by decide
structure KzS (w : World) (m : Mm) (va : Value) (A : List Rm) (vd : Value) (D : List Mm) (W : World) : Prop where
  a : KOwns KR (w.heap.size + 1) va A W
  d : KOwns KM (w.heap.size + 1) vd D W
  box : Blk w.heap.size (mca m) 40 W
  kept : Below w.heap.size w W
structure CellsZ (W : World) (b o : Nat) (m : Mm) : Prop where
  kind : W.cell? ⟨b, o, none⟩ = some (.int .i64 m.u.kind)
  mm : W.rangeAt b (o + 1) (cl m.u.m)
  p : W.cell? ⟨b, o + 25, none⟩ = some (.int .i64 m.u.p)
theorem cellsZ_mid {W:World} {b o:Nat} {m:Mm} (h:W.rangeAt b o (mcl m)):CellsZ W b o m where
 kind:=h 0 _ rfl
 mm:=fun j x hx=>by have:=h (1+j) x (mcl_mid m hx);rwa [←Nat.add_assoc] at this
 p:=h 25 _ (mcl_ge m 0)
section
variable {w W W' : World} {m d : Mm} {va vd v' : Value} {A : List Rm} {D D' : List Mm} {A' : List Rm} {B g n c i : Nat} {x : Rm}
theorem KOwns.kcells (h:KOwns KM B (.slice (some ⟨g,0,none⟩) n c) D W) (hi:D[i]? =some d):CellsZ W g (i*31) d:=cellsZ_mid (by have:=(h.lies okM).at' hi;rwa [Nat.zero_add] at this)
theorem KOwns.kcellsR (h:KOwns KR B (.slice (some ⟨g,0,none⟩) n c) A W) (hi:A[i]? =some x):W.rangeAt g (i*32) (rcl x):=by have:=(h.lies okR).at' hi;rwa [Nat.zero_add] at this
theorem KzS.below (h:KzS w m va A vd D W) (hb:Below W.heap.size W W'):KzS w m va A vd D W':=⟨h.a.below hb,h.d.below hb,h.box.below hb,h.kept.trans (hb.mono h.kept.size)⟩
theorem KzS.growD (h:KzS w m va A vd D W) (ho:KOwns KM (w.heap.size+1) v' D' W') (hg:W.grownBy W' vd.ownBlock):KzS w m va A v' D' W':=⟨KOwns.apartT ne_RM h.a h.d hg,ho,h.box.grown h.d (Nat.lt_succ_self _) hg,kbelowOwn h.kept h.d (Nat.le_succ _) hg⟩
theorem KzS.growA (h:KzS w m va A vd D W) (ho:KOwns KR (w.heap.size+1) v' A' W') (hg:W.grownBy W' va.ownBlock):KzS w m v' A' vd D W':=⟨ho,KOwns.apartT ne_MR h.d h.a hg,h.box.grown h.a (Nat.lt_succ_self _) hg,kbelowOwn h.kept h.a (Nat.le_succ _) hg⟩
theorem KOwns.someAt {α:Type} {K:Kd α} (ok:K.Ok) {v:Value} {l:List α} {a:α} (h:KOwns K B v l W) (hi:l[i]? =some a):∃g c,v= .slice (some ⟨g,0,none⟩) l.length c:=by
 rcases h.kat ok with⟨_,rfl⟩|⟨g,c,e,_⟩
 ·simp at hi
 ·exact⟨g,c,e⟩
end
theorem hasK_snoc {A:List Rm} {c:Nat} {x:Rm} {r:Ru} (hx:A[c]? =some x):hasK ((A.take (c+1)).map (·.u)) r=(hasK ((A.take c).map (·.u)) r||keyB x.u r):=by
 rw[List.take_add_one,hx,List.map_append];unfold hasK;rw[List.any_append];simp
set_option maxHeartbeats 8000000 in
set_option maxRecDepth 100000 in
theorem rkeys_any (z:Zu) (k:Nat) (hF:FitZ k z) (m:Mm) (w0 w:World) (hZ:RefA w0 z w):Calls Tryz.prog 61 #[.pointer (some ⟨z.p,0,none⟩),.agg (mca m)] w fun e w'=>e= .returned (.int .i64 ((keysU z.un.base (chgO z.un.opn++[m.u])).length:Int))∧Below w.heap.size w w':=by
 obtain⟨pb,cb,hvb⟩:=hZ.base.form;obtain⟨po,co,hvo⟩:=hZ.opn.form;have HVB:=qH hvb;have HVO:=qH hvo;have HZ:=qH hZ;have HLN:=qH hF.len;have HCO:=qH (show(chgZ z.ts++[m]).map (·.u)=chgO z.un.opn++[m.u] by rw[List.map_append,chgZ_u];rfl);rw[←HCO.out];clear HCO;have HB0:=qH (below1 w (.cells (mca m) 40));have R0:=qH (Blk.new w (mca m) 40);clear hZ hvb hvo hF;(go_enter Tryz.func61,Tryz.ntmps61);(go_upto_region 1 with fail);have HW0:=qH (show w.heap.size+1≤(w.alloc (.cells (mca m) 40)).heap.size from R0.out.lt);generalize hW1:w.alloc (.cells (mca m) 40)=W1 at*;clear hW1;have HZ1:=qH (HZ.out.below HB0.out);have HB1:=qH (below1 W1 (.cells #[] KR.T));have HZ2:=qH (HZ1.out.below HB1.out);have c1:(W1.alloc (.cells #[] KR.T)).cell? ⟨z.p,1,none⟩=some (.slice pb z.L.length cb):=(by rw[←HVB.out];exact HZ2.out.vb_);have HKB:=qH (show KLies KR (.slice pb z.L.length cb) z.L (W1.alloc (.cells #[] KR.T)) by rw[←HVB.out];exact HZ2.out.base.lies okR);have HBK:=qH (KOwns.built (K:=KR) W1 (w.heap.size+1) HW0.out);have HKP:=qH (show Below w.heap.size w (W1.alloc (.cells #[] KR.T)) from HB0.out.trans (HB1.out.mono HB0.out.size));have R1:=qH (R0.out.below HB1.out);have HSZ:=qH (Nat.le_trans HW0.out HB1.out.size);have HL1:=qH (show 0+z.L.length≤1000000 by have:=HLN.out.1;omega);clear R0 HZ1 HB0 HB1 HW0;(go_upto_region 2 with(first|(refine kbuildNone KR okR rfl rfl ?_)|(refine kappend KR okR rfl _ _ rfl (w.heap.size+1) _ [] z.L rfl HBK.out _ rfl HKB.out HSZ.out HL1.out (fun v1 w1 ho hg=>?_);refine Hid.out ?_)));have HS:=qH (show KzS w m v1 z.L (.slice none 0 0) [] w1 from(show KzS w m _ [] (.slice none 0 0) [] (W1.alloc (.cells #[] KR.T)) from⟨HBK.out,KOwns.nil _ _,R1.out,HKP.out⟩).growA ho hg);clear ho hg HBK HKB HKP R1 HSZ c1 HZ2 HL1;refine qH ?_;(go_wp2_with fail);obtain⟨n,hn⟩:∃n,n=z.ts.length:=⟨_,rfl⟩;have HN:=qH hn;have hl2:n≤9000:=(by rw[hn];exact HLN.out.2);clear hn;go_loopg [6,7] n (fun k s6 s7 wr=>∃r:Nat,r+k=n∧s7= .int .i64 r∧KzS w m v1 z.L s6 (chgZ (z.ts.take r)) wr)
 case atStart=>exact⟨0,by omega,rfl,HS.out⟩
 case round=>
  clear HS;obtain⟨r,hr,rfl,hs⟩:=hrel;have HS:=qH hs;obtain⟨pd,cd,ed⟩:=hs.d.form;subst ed;have HZr:=qH (HZ.out.below hs.kept);have c2:wr.cell? ⟨z.p,2,none⟩=some (.slice po n co):=(by rw[HN.out,←HVO.out];exact HZr.out.vo_);clear hs;by_cases hlt:r<n
  ·have hltI:(r:Int)<(n:Int):=(by omega);obtain⟨t,ht⟩:=lt_some (l:=z.ts) (i:=r) (by have:=HN.out;omega);have hmem:=List.mem_of_getElem? ht;obtain⟨b,o,rfl,hrg⟩:=(show KLies KO (.slice po n co) z.ts wr by rw[HN.out,←HVO.out];exact HZr.out.opn.lies okO).at (i:=r) (a:=t) ht;have k1:wr.cell? ⟨b,o+r*3+1,none⟩=some (.slice t.q t.n t.c):=hrg 1 _ rfl;have HTK:=qH (chgZ_take z.ts r t ht);have HLS:=qH (show(chgZ (z.ts.take r)).length+t.ms.length≤1000000 by have h1:=chgZ_len z.ts (r+1);rw[chgZ_take z.ts r t ht,List.length_append] at h1;have:=HLN.out.1;omega);have HKM:=qH (show KLies KM (.slice t.q t.n t.c) t.ms wr from(HZr.out.mlies hmem).1);have HSZ:=qH (show w.heap.size+1≤wr.heap.size from HS.out.box.lt);clear hrg ht hmem;(go_wp2_with(refine kappend KM okM rfl _ _ rfl (w.heap.size+1) _ (chgZ (z.ts.take r)) t.ms rfl HS.out.d _ rfl HKM.out HSZ.out HLS.out (fun v' w' ho hg=>?_);refine Hid.out ?_));have HS1:=qH (HS.out.growD ho hg);clear ho hg HS HZr HKM HSZ c2 k1;refine qH ?_;(go_wp2_with fail);go_roundg (n - (r+1))
   case measure=>omega
   case rel=>exact⟨r+1,by omega,by go_num,by rw[HTK.out];exact HS1.out⟩
  ·have hltI:¬(r:Int)<(n:Int):=(by omega);have HS1:=qH (show KzS w m v1 z.L (.slice pd (chgZ z.ts).length cd) (chgZ z.ts) wr by have e:z.ts.take r=z.ts:=List.take_of_length_le (by have:=HN.out;omega);have h:=HS.out;rw[e] at h;exact h);have e1:z.ts.take r=z.ts:=List.take_of_length_le (by have:=HN.out;omega);rw[e1];clear HS e1 HZr HN;have HA:=qH (below1 wr (.cells (mca m) KM.T));have HS2:=qH (HS1.out.below HA.out);have HKM:=qH (oneM (Blk.new wr (mca m) KM.T));have R2:=qH HS1.out.box;have HLS:=qH (show(chgZ z.ts).length+1≤1000000 by have:=HLN.out.1;omega);have HSZ:=qH (show w.heap.size+1≤(wr.alloc (.cells (mca m) KM.T)).heap.size from Nat.le_trans HS1.out.box.lt HA.out.size);(go_upto_region 8 with(first|(refine wpList_load_row rfl 40 _ rfl w.heap.size rfl 40 (mca m) (0,0) _ R2.out Tryz.underlying40 rfl infoMod ?_)|(refine kbuildOne KM okM _ zeroMd rfl _ rfl (mca m) rfl (by decide) (fillMd m) ?_)|(refine kappend KM okM rfl _ _ rfl (w.heap.size+1) _ (chgZ z.ts) [m] rfl HS2.out.d _ rfl HKM.out HSZ.out HLS.out (fun v' w' ho hg=>?_);refine Hid.out ?_)));have HS3:=qH (HS2.out.growD ho hg);clear ho hg HS1 HS2 HA HKM R2 HSZ HLS c2 hl2 hltI hlt hr;obtain⟨D,hD⟩:∃D,D=chgZ z.ts++[m]:=⟨_,rfl⟩;have HLD:=qH (show D.length≤9001 by rw[hD,List.length_append,List.length_singleton];have:=HLN.out.1;omega);have HDD:=qH hD;rw[←hD] at HS3;have HDM:=qH (show D[(chgZ z.ts).length]? =some m by rw[hD,List.getElem?_append_right (Nat.le_refl _)];simp);obtain⟨gd,cd2,ed⟩:=HS3.out.d.someAt okM HDM.out;subst ed;clear hD HDM;obtain⟨nd,hnd⟩:∃nd,nd=D.length:=⟨_,rfl⟩;have HND:=qH hnd;have hld:nd≤9001:=(by rw[hnd];exact HLD.out);rw[←hnd] at HS3 ⊢;clear hnd HLD;have HLA:=qH (show z.L.length≤9000 by have:=HLN.out.1;omega);generalize w'=WX at*;refine qH ?_;(go_wp2_with fail);go_loopg [5,8] nd (fun k s5 s8 wr=>∃(r:Nat) (L:List Rm),r+k=nd∧s8= .int .i64 r∧L.map (·.u)=addsK (z.L.map (·.u)) (addL ((D.take r).map (·.u)))∧L.length≤z.L.length+r∧KzS w m s5 L (.slice (some ⟨gd,0,none⟩) nd cd2) D wr)
   case atStart=>exact⟨0,z.L,by omega,rfl,rfl,by omega,HS3.out⟩
   case round=>
    clear HS3;obtain⟨r,L,hr,rfl,hu,hll,hs⟩:=hrel;have HS:=qH hs;have HUL:=qH hu;have HLL:=qH hll;obtain⟨pa,ca,ea⟩:=hs.a.form;subst ea;clear hs hu hll;by_cases hlt:r<nd
    ·have hltI:(r:Int)<(nd:Int):=(by omega);obtain⟨d,hd⟩:=lt_some (l:=D) (i:=r) (by have:=HND.out;omega);have HD:=qH hd;have HTK:=qH (show addL ((D.take (r+1)).map (·.u))=addL ((D.take r).map (·.u))++(if d.u.kind=1 then[kyU d.u] else[]) by rw[List.take_add_one,hd,List.map_append];exact addL_snoc _ _);clear hd;(go_upto_region 11 with fail);refine wp_region_held_drew (S:=KzS w m (.slice pa L.length ca) L (.slice (some ⟨gd,0,none⟩) nd cd2) D) (by kernel_rfl) (HS.out.below (Below.refl _ _).drew) (fun hS=>?_);clear HS;generalize wr.drew=W at*;refine sR 0 hS ?_;refine sR 1 hS ?_;refine sR 2 hS ?_;refine sR 3 hS ?_;refine sV 4 rfl (fun w hSw=>execRow rfl gd (r*31+1) rfl (cl d.u.m) _ ((hSw.d.kcells HD.out).mm) Tryz.underlying37 rfl infoCube) hS ?_;refine sR 5 hS ?_;refine sR 6 hS ?_;refine sR 7 hS ?_;refine sR 8 hS ?_;refine sV 9 rfl (fun w hSw=>by have k25:=(hSw.d.kcells HD.out).p;go_simp<;>with_reducible rfl) hS ?_;refine sV 10 rfl (fun w hSw=>execBuildKr rfl d.u.m d.u.p rfl rfl) hS ?_;refine sC 11 (fun K hK=>?_);go_simp;have HSa:=qH hS;have XN:=qH (Blk.new W #[.int .u64 0,.int .u64 0,.int .u64 0,.int .u64 0,.int .u64 0,.int .u64 0,.int .u64 0,.int .u64 0,.int .u64 0,.int .u64 0,.int .u64 0,.int .u64 0,.int .u64 0,.int .u64 0,.int .u64 0,.int .u64 0,.int .u64 0,.int .u64 0,.int .u64 0,.int .u64 0,.int .u64 0,.int .u64 0,.int .u64 0,.int .u64 0,.int .i64 0,Value.slice none 0 0,.int .i64 0,.int .i64 0,.int .i64 0,.int .i64 0,.int .i64 0,.int .i64 0] 88);refine hK.out _ _ (hS.below (below1 _ _)) (fun hS=>?_);clear hK K;(try simp only[Act.put,sA,sB,sE]);refine sC 12 (fun K hK=>?_);refine wp_store_row 88 _ _ rfl W.heap.size (rca (kyZ d)) rfl rfl 88 _ XN.out (by kernel_rfl) rfl (rca_one _) (hK.out _ _ (by rw[World.setRow_alloc_new];exact HSa.out.below (below1 _ _)) (fun hS=>?_));clear hK K;rw[World.setRow_alloc_new] at hS ⊢;clear XN HSa;(try simp only[Act.put]);refine sD ?_;have RK:=qH (Blk.new W (rca (kyZ d)) 88);have HS:=qH hS;have k0:=(hS.d.kcells HD.out).kind;clear hS;generalize hb9:W.heap.size=b9 at RK ⊢;clear hb9;generalize hWW:W.alloc (.cells (rca (kyZ d)) 88)=W2 at*;clear hWW;obtain⟨yk,hyk⟩:∃yk:Bool,yk=(d.u.kind != 1):=⟨_,rfl⟩;have HYK:=qH hyk;have hykf:(d.u.kind != 1)=yk:=hyk.symm;clear hyk;(go_upto_region 13 with fail);clear k0 hykf;have hLB:L.length≤19000:=(by have:=HLL.out;have:=HLA.out;omega);(go_wp2_with fail);go_loopg [10,11] L.length (fun kk y j wr=>∃(c:Nat) (yb:Bool),c+kk=L.length∧j= .int .i64 c∧y= .bool yb∧yb=(yk||hasK ((L.take c).map (·.u)) (kyU d.u))∧(KzS w m (.slice pa L.length ca) L (.slice (some ⟨gd,0,none⟩) nd cd2) D wr∧Blk b9 (rca (kyZ d)) 88 wr))
     case atStart=>exact⟨0,yk,by omega,rfl,rfl,by cases yk<;>rfl,HS.out,RK.out⟩
     case round=>
      clear HS RK;obtain⟨c,yb,hck,rfl,rfl,hyb,hs⟩:=hrel;have HYB:=qH hyb;have HS:=qH hs;clear hyb hs;by_cases hcB:c<L.length
      ·have hcI:(c:Int)<(L.length:Int):=(by omega);obtain⟨x,hx⟩:=lt_some hcB;have HX:=qH hx;have HSN:=qH (hasK_snoc (r:=kyU d.u) hx);obtain⟨ga,ca2,ea⟩:=HS.out.1.a.someAt okR hx;injection ea with ea1 _ ea2;subst ea1 ea2;clear hx;cases yb
       ·(go_upto_region 14 with fail);(go_upto_region 16 with fail);refine wp_region_held_drew (S:=fun W=>KzS w m (.slice (some ⟨ga,0,none⟩) L.length ca) L (.slice (some ⟨gd,0,none⟩) nd cd2) D W∧Blk b9 (rca (kyZ d)) 88 W) (by kernel_rfl) ⟨HS.out.1.below (Below.refl _ _).drew,HS.out.2.drew⟩ (fun hS=>?_);clear HS;generalize wr.drew=W at*;refine sR 0 hS ?_;refine sR 1 hS ?_;refine sR 2 hS ?_;refine sR 3 hS ?_;refine sR 4 hS ?_;refine sV 5 rfl (fun w hSw=>execRow rfl ga (c*32) rfl (rcl x) _ (hSw.1.a.kcellsR HX.out) Tryz.underlying88 rfl infoR) hS ?_;refine sV 6 rfl (fun w hSw=>execRow0 rfl b9 rfl hSw.2 Tryz.underlying88 rfl (by rw[rca_size];exact infoR)) hS ?_;refine sC 7 (fun K hK=>?_);go_simp;refine(rkey_any x (kyZ d) _).mono ?_;rintro e w6 ⟨rfl,hw6⟩;refine hK.out _ _ ⟨hS.1.below hw6,hS.2.below hw6⟩ (fun hS=>?_);clear hK K hw6;(try simp only[Act.put,sA,sB,sE]);refine sR 8 hS ?_;refine sR 9 hS ?_;refine sD ?_;have HS1:=qH hS;clear hS;(go_wp2_with fail);go_roundg (L.length - (c+1))
        case measure=>omega
        case rel=>exact⟨c+1,_,by omega,by go_num,rfl,by rw[HSN.out,←Bool.or_assoc,←HYB.out,Bool.false_or];rfl,HS1.out⟩
       ·(go_upto_region 14 with fail);(go_upto_region 16 with fail);refine wp_region_held_drew (S:=fun W=>KzS w m (.slice (some ⟨ga,0,none⟩) L.length ca) L (.slice (some ⟨gd,0,none⟩) nd cd2) D W∧Blk b9 (rca (kyZ d)) 88 W) (by kernel_rfl) ⟨HS.out.1.below (Below.refl _ _).drew,HS.out.2.drew⟩ (fun hS=>?_);clear HS;generalize wr.drew=W at*;refine sR 0 hS ?_;refine sR 1 hS ?_;refine seqSkip 2 rfl (by kernel_rfl) (by kernel_rfl) (by kernel_rfl) (fun _ _ _ h=>h) rfl hS ?_;(try simp only[Act.put,sA,sB,sE]);refine seqSkip 3 rfl (by kernel_rfl) (by kernel_rfl) (by kernel_rfl) (fun _ _ _ h=>h) rfl hS ?_;(try simp only[Act.put,sA,sB,sE]);refine seqSkip 4 rfl (by kernel_rfl) (by kernel_rfl) (by kernel_rfl) (fun _ _ _ h=>h) rfl hS ?_;(try simp only[Act.put,sA,sB,sE]);refine seqSkip 5 rfl (by kernel_rfl) (by kernel_rfl) (by kernel_rfl) (fun _ _ _ h=>h) rfl hS ?_;(try simp only[Act.put,sA,sB,sE]);refine seqSkip 6 rfl (by kernel_rfl) (by kernel_rfl) (by kernel_rfl) (fun _ _ _ h=>h) rfl hS ?_;(try simp only[Act.put,sA,sB,sE]);refine seqSkip 7 rfl (by kernel_rfl) (by kernel_rfl) (by kernel_rfl) (fun _ _ _ h=>h) rfl hS ?_;(try simp only[Act.put,sA,sB,sE]);refine sR 8 hS ?_;refine sR 9 hS ?_;refine sD ?_;have HS1:=qH hS;clear hS;(go_wp2_with fail);go_roundg (L.length - (c+1))
        case measure=>omega
        case rel=>exact⟨c+1,true,by omega,by go_num,rfl,by rw[HSN.out,←Bool.or_assoc,←HYB.out,Bool.true_or],HS1.out⟩
      ·have hcI:¬(c:Int)<(L.length:Int):=(by omega);have HYC:=qH (show yb=(yk||hasK (L.map (·.u)) (kyU d.u)) by rw[HYB.out,List.take_of_length_le (by omega)]);cases yb
       ·have hno:yk=false∧hasK (L.map (·.u)) (kyU d.u)=false:=(by simpa using HYC.out.symm);have HNK:=qH (show d.u.kind=1 by have:=HYK.out;rw[hno.1] at this;simpa using this.symm);have HNH:=qH hno.2;clear hno;have HB3:=qH (below1 wr (.cells (rca (kyZ d)) KR.T));have HS3:=qH (HS.out.1.below HB3.out);have HRX:=qH HS.out.2;have HK3:=qH (Blk.klies (K:=KR) (l:=[kyZ d]) (Blk.new wr (rca (kyZ d)) KR.T) okR rfl);have HSZ:=qH (show w.heap.size+1≤(wr.alloc (.cells (rca (kyZ d)) KR.T)).heap.size from Nat.le_trans HS.out.1.box.lt HB3.out.size);have HLE:=qH (show L.length+[kyZ d].length≤1000000 by simp;omega);(go_wp2_with(first|(refine wpList_load_row rfl 88 _ rfl b9 rfl 88 (rca (kyZ d)) (0,0) _ HRX.out Tryz.underlying88 rfl infoR ?_)|(refine kbuildOne KR okR _ zeroR rfl _ rfl (rca (kyZ d)) rfl (by decide) (fillOne (kyZ d)) ?_)|(refine kappend KR okR rfl _ _ rfl (w.heap.size+1) _ L [kyZ d] rfl HS3.out.a _ rfl HK3.out HSZ.out HLE.out (fun v' w' ho hg=>?_);refine Hid.out ?_)));have HS4:=qH (HS3.out.growA ho hg);clear ho hg HS HS3 HRX HK3 HSZ HB3;refine qH ?_;(go_wp2_with fail);go_roundg (nd - (r+1))
        case measure=>omega
        case rel=>refine⟨r+1,L++[kyZ d],by omega,by go_num,?_,by rw[List.length_append,List.length_singleton];have:=HLL.out;omega,HS4.out⟩;rw[HTK.out,if_pos HNK.out,addsK_snoc,←HUL.out,List.map_append];unfold addK;rw[HNH.out];rfl
       ·have HNO:=qH (show addsK (z.L.map (·.u)) (addL ((D.take (r+1)).map (·.u)))=L.map (·.u) by
         rw[HTK.out,HUL.out];by_cases h1:d.u.kind=1
         ·have h2:yk=false:=(by rw[HYK.out,h1];rfl);have h3:hasK (L.map (·.u)) (kyU d.u)=true:=(by have:=HYC.out;rw[h2] at this;simpa using this.symm);rw[if_pos h1,addsK_snoc,←HUL.out];unfold addK;rw[h3];rfl
         ·rw[if_neg h1,List.append_nil])
        (go_wp2_with fail);go_roundg (nd - (r+1))
        case measure=>omega
        case rel=>exact⟨r+1,L,by omega,by go_num,HNO.out.symm,by have:=HLL.out;omega,HS.out.1⟩
    ·have hltI:¬(r:Int)<(nd:Int):=(by omega);have HFD:=qH (show L.length=(keysU (z.L.map (·.u)) (D.map (·.u))).length by have e:D.take r=D:=List.take_of_length_le (by have:=HND.out;omega);have h:=congrArg List.length HUL.out;rw[e,List.length_map] at h;exact h);(go_wp2_with fail);go_ret;refine⟨?_,HS.out.kept⟩;rw[HFD.out,HDD.out,List.map_append];rfl
end Go.Proofs.YtomnpfbebimpkaaGreatDoor
