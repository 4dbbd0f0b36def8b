/-
  Take of the reference's unit.
-/
import Derived.Test.YtomnpfbebimpkaaGreatDoorUreTk
import Derived.Test.YtomnpfbebimpkaaGreatDoorPackHead
import Derived.Test.YtomnpfbebimpkaaGreatDoorSq
namespace Go.Proofs.YtomnpfbebimpkaaGreatDoor
set_option maxRecDepth 20000
open Go.RowKit
section
variable {P : Program} {ops : Array Oper} {Q : Exit → Act → World → Prop} {md : Region.Mode} {S : World → Prop} {t : Nat}
def wpAnyT (P : Program) (md : Region.Mode) (ops : Array Oper) (Q : Exit → Act → World → Prop) (S : World → Prop) (t : Nat) : Nat → Array Bool → Act → World → Prop
  | 0, listed, a, w => Region.ready md ops listed = [] ∧ Q .normal a w
  | fuel + 1, listed, a, w =>
    (Region.ready md ops listed = [] → Q .normal a w) ∧
    ∀ i ∈ Region.ready md ops listed, wpOp P ops Q i (fun a' w' => (i ≠ t → S w') ∧ wpAnyT P md ops Q S t fuel (listed.setIfInBounds i true) a' w') a w
theorem wpAny_of_T:∀(fuel:Nat) (listed:Array Bool) (a:Act) (w:World),wpAnyT P md ops Q S t fuel listed a w→wpAny P md ops Q fuel listed a w
 |0,_,_,_,h=>h
 |fuel+1,_,_,_,h=>⟨h.1,fun i hi=>wpOp_mono (fun a' w' h'=>wpAny_of_T fuel _ a' w' h'.2) (h.2 i hi)⟩
def waitsT (md : Region.Mode) (ops : Array Oper) (t i : Nat) : Bool := match ops[t]? with
  | some o => o.after.any fun e => Region.binds md e && e.on == i
  | none => true
theorem wpAnyT_first {i:Nat} {oi:Oper} {v:Value} (hi:ops[i]? =some oi) (hsel:∀(j:Nat) (o:Oper) cs b,ops[j]? =some o→o.op≠ .select cs b) (hQ:∀c a w,Q (.panic c) (a.put oi.dst v) w→Q (.panic c) a w) (hw:waitsT md ops t i=true):∀(fuel:Nat) (listed:Array Bool) (a:Act) (w:World),(∀j oj,ops[j]? =some oj→j≠i→listed.getD j true=false→(∀e∈oj.after,Region.binds md e=true→e.on≠i)→oi.apart ops oj=true)→i∈Region.ready md ops listed→YieldsIf P ops S oi v a→S w→wpAnyT P md ops Q S t fuel (listed.setIfInBounds i true) (a.put oi.dst v) w→wpAnyT P md ops Q S t (fuel+1) listed a w:=by
 intro fuel;induction fuel with
 |zero=>
  intro listed a w _ hr hy hS H;refine⟨fun h=>(by rw[h] at hr;cases hr),fun j hj=>?_⟩;by_cases hji:j=i
  ·subst hji;exact hy.wpOp hi hS ⟨fun _=>hS,H⟩
  ·have:=ready_mono hj hji;rw[H.1] at this;cases this
 |succ fuel ih=>
  intro listed a w hfree hr hy hS H;refine⟨fun h=>(by rw[h] at hr;cases hr),fun j hj=>?_⟩;by_cases hji:j=i
  ·subst hji;exact hy.wpOp hi hS ⟨fun _=>hS,H⟩
  ·have h1:=H.2 j (ready_mono hj hji);obtain⟨hjun,oj,hoj,hall⟩:=mem_ready.1 hj;have hnot:∀e∈oj.after,Region.binds md e=true→e.on≠i:=fun e he hb heq=>by
    have h1:=hall e he hb;have h0:=(mem_ready.1 hr).1;rw[heq] at h1;rcases Nat.lt_or_ge i listed.size with h'|h'
    ·simp[h'] at h0 h1;rw[h0] at h1;cases h1
    ·simp[Array.getElem?_eq_none h'] at h1
   have hjt:j≠t:=fun e=>(by subst e;unfold waitsT at hw;rw[hoj] at hw;obtain⟨e,he,hb⟩:=Array.any_eq_true'.1 hw;rw[Bool.and_eq_true] at hb;exact hnot e he hb.1 (by simpa using hb.2));have h2:=wpOp_putIf hoj (hfree j oj hoj hji hjun hnot) (fun cs b=>hsel i oi cs b hi) (fun cs b=>hsel j oj cs b hoj) hQ hy h1;have hfree':∀k ok,ops[k]? =some ok→k≠i→(listed.setIfInBounds j true).getD k true=false→(∀e∈ok.after,Region.binds md e=true→e.on≠i)→oi.apart ops ok=true:=fun k ok hk hki hun hno=>by
    refine hfree k ok hk hki ?_ hno;by_cases hjk:j=k
    ·subst hjk;exact hjun
    ·rw[getD_set_ne true hjk] at hun;exact hun
   refine wpOp_mono (fun a' w' h3=>⟨fun _=>h3.2.1 hjt,ih (listed.setIfInBounds j true) a' w' hfree' (ready_mono hr (Ne.symm hji)) h3.1 (h3.2.1 hjt) ?_⟩) h2;rw[Array.setIfInBounds_comm _ _ hji];exact h3.2.2
theorem wpAnyT_done {listed:Array Bool} {a:Act} {w:World} (hr:Region.ready md ops listed=[]) (h:Q .normal a w):∀fuel,wpAnyT P md ops Q S t fuel listed a w
 |0=>⟨hr,h⟩
 |_+1=>⟨fun _=>h,by rw[hr];simp⟩
theorem wp_region_T {id:Nat} {a:Act} {w:World} (S:World→Prop) (t:Nat) (hm:P.follows .mixedOrders=true) (hS:S w.drew) (h:S w.drew→wpAnyT P .any ops Q S t ops.size (Array.replicate ops.size false) a w.drew):(Code.region id ops true).wp P Q a w:=wp_region_any hm (wpAny_of_T _ _ _ _ (h hS))
end
section
variable {P : Program} {l : List Oper} {Q : Exit → Act → World → Prop} {S : World → Prop} {t fuel : Nat} {listed : Array Bool} {a a' : Act} {w : World} {oi : Oper}
theorem tA {α:Type _} (l:List α) (i:Nat) (a:α):l.toArray.setIfInBounds i a=(l.set i a).toArray:=List.setIfInBounds_toArray l i a
theorem tB {α:Type _} {x a:α} {l:List α}:(x::l).set 0 a=a::l:=List.set_cons_zero
theorem tE {α:Type _} {x a:α} {l:List α} {i:Nat}:(x::l).set (i+1) a=x::l.set i a:=List.set_cons_succ
theorem tR (i:Nat) {v:Value} (hS:S w) (h:wpAnyT P .any l.toArray Q S t fuel (listed.setIfInBounds i true) a' w) (hi:l[i]? =some oi:=by exact rfl) (hs:Region.noSelect l.toArray=true:=by kernel_rfl) (hf:Region.free .any l.toArray listed i=true:=by kernel_rfl) (hr:(Region.ready .any l.toArray listed).contains i=true:=by kernel_rfl) (ht:waitsT .any l.toArray t i=true:=by kernel_rfl) (hQ:∀c a w,Q (.panic c) (a.put oi.dst v) w→Q (.panic c) a w:=by exact fun _ _ _ h=>h) (hw:Region.wanted oi (yielded l.toArray a.tmps)=true:=by exact rfl) (hv:∀w,S w→(execOp a.eval oi).run P w= .ok (.value v) w:=by exact fun w hSw=>by go_simp<;>with_reducible rfl) (ha:a.put oi.dst v=a':=by(try simp only[Act.put,tA,tB,tE]);exact rfl):wpAnyT P .any l.toArray Q S t (fuel+1) listed a w:=wpAnyT_first (by simpa using hi) (Region.noSelect_spec hs) hQ ht fuel listed a w (Region.free_spec (by simpa using hi) hf) (by simpa using hr) (.inl ⟨hw,hv⟩) hS (by rw[ha];exact h)
theorem tV (i:Nat) {v:Value} (hi:l[i]? =some oi) (hv:∀w,S w→(execOp a.eval oi).run P w= .ok (.value v) w) (hS:S w) (h:wpAnyT P .any l.toArray Q S t fuel (listed.setIfInBounds i true) a' w) (hs:Region.noSelect l.toArray=true:=by kernel_rfl) (hf:Region.free .any l.toArray listed i=true:=by kernel_rfl) (hr:(Region.ready .any l.toArray listed).contains i=true:=by kernel_rfl) (ht:waitsT .any l.toArray t i=true:=by kernel_rfl) (hQ:∀c a w,Q (.panic c) (a.put oi.dst v) w→Q (.panic c) a w:=by exact fun _ _ _ h=>h) (hw:Region.wanted oi (yielded l.toArray a.tmps)=true:=by exact rfl) (ha:a.put oi.dst v=a':=by(try simp only[Act.put,tA,tB,tE]);exact rfl):wpAnyT P .any l.toArray Q S t (fuel+1) listed a w:=wpAnyT_first (by simpa using hi) (Region.noSelect_spec hs) hQ ht fuel listed a w (Region.free_spec (by simpa using hi) hf) (by simpa using hr) (.inl ⟨hw,hv⟩) hS (by rw[ha];exact h)
theorem tS (i:Nat) {v:Value} (hS:S w) (h:wpAnyT P .any l.toArray Q S t fuel (listed.setIfInBounds i true) a' w) (hi:l[i]? =some oi:=by exact rfl) (hr:Region.ready .any l.toArray listed=[i]:=by kernel_rfl) (hw:Region.wanted oi (yielded l.toArray a.tmps)=true:=by exact rfl) (hv:(execOp a.eval oi).run P w= .ok (.value v) w:=by go_simp<;>with_reducible rfl) (ha:a.put oi.dst v=a':=by(try simp only[Act.put,tA,tB,tE]);exact rfl):wpAnyT P .any l.toArray Q S t (fuel+1) listed a w:=⟨fun h0=>absurd (hr ▸ h0) (by simp),hr ▸ fun j hj=>by
 simp only[List.mem_cons,List.not_mem_nil,or_false] at hj;subst hj;exact YieldsIf.wpOp (S:=fun x=>x=w) (o:=oi) (v:=v) (by simpa using hi) (.inl ⟨hw,fun _ e=>e ▸ hv⟩) rfl ⟨fun _=>hS,by rw[ha];exact h⟩⟩
theorem tOne (i:Nat) (hi:l[i]? =some oi) (hw:Region.wanted oi (yielded l.toArray a.tmps)=true) (h:∀K:Act→World→Prop,Shut (∀a w,S w→(S w→wpAnyT P .any l.toArray Q S t fuel (listed.setIfInBounds i true) a w)→K a w)→Oper.wp P oi a w K Q):wpOp P l.toArray Q i (fun a' w'=>(i≠t→S w')∧wpAnyT P .any l.toArray Q S t fuel (listed.setIfInBounds i true) a' w') a w:=wpOp_step (o:=oi) (by simpa using hi) fun K hK=>by rw[if_pos hw];exact h K fun a w hS hW=>hK a w ⟨fun _=>hS,hW hS⟩
theorem tC (i:Nat) (h:∀K:Act→World→Prop,Shut (∀a w,S w→(S w→wpAnyT P .any l.toArray Q S t fuel (listed.setIfInBounds i true) a w)→K a w)→Oper.wp P oi a w K Q) (hi:l[i]? =some oi:=by exact rfl) (hr:Region.ready .any l.toArray listed=[i]:=by kernel_rfl) (hw:Region.wanted oi (yielded l.toArray a.tmps)=true:=by exact rfl):wpAnyT P .any l.toArray Q S t (fuel+1) listed a w:=⟨fun h0=>absurd (hr ▸ h0) (by simp),hr ▸ fun j hj=>by
 simp only[List.mem_cons,List.not_mem_nil,or_false] at hj;subst hj;exact tOne j hi hw h⟩
theorem tC2 {oj:Oper} (i j:Nat) (h1:∀K:Act→World→Prop,Shut (∀a w,S w→(S w→wpAnyT P .any l.toArray Q S t fuel (listed.setIfInBounds i true) a w)→K a w)→Oper.wp P oi a w K Q) (h2:∀K:Act→World→Prop,Shut (∀a w,S w→(S w→wpAnyT P .any l.toArray Q S t fuel (listed.setIfInBounds j true) a w)→K a w)→Oper.wp P oj a w K Q) (hi:l[i]? =some oi:=by exact rfl) (hj:l[j]? =some oj:=by exact rfl) (hr:Region.ready .any l.toArray listed=[i,j]:=by kernel_rfl) (wi:Region.wanted oi (yielded l.toArray a.tmps)=true:=by exact rfl) (wj:Region.wanted oj (yielded l.toArray a.tmps)=true:=by exact rfl):wpAnyT P .any l.toArray Q S t (fuel+1) listed a w:=⟨fun h0=>absurd (hr ▸ h0) (by simp),hr ▸ fun k hk=>by
 simp only[List.mem_cons,List.not_mem_nil,or_false] at hk;rcases hk with rfl|rfl
 ·exact tOne k hi wi h1
 ·exact tOne k hj wj h2⟩
theorem tL (h:∀K:Act→World→Prop,Shut (∀a w,wpAnyT P .any l.toArray Q S t fuel (listed.setIfInBounds t true) a w→K a w)→Oper.wp P oi a w K Q) (hi:l[t]? =some oi:=by exact rfl) (hr:Region.ready .any l.toArray listed=[t]:=by kernel_rfl) (hw:Region.wanted oi (yielded l.toArray a.tmps)=true:=by exact rfl):wpAnyT P .any l.toArray Q S t (fuel+1) listed a w:=⟨fun h0=>absurd (hr ▸ h0) (by simp),hr ▸ fun j hj=>by
 simp only[List.mem_cons,List.not_mem_nil,or_false] at hj;subst hj;exact wpOp_step (o:=oi) (by simpa using hi) fun K hK=>by rw[if_pos hw];exact h K fun a w hW=>hK a w ⟨fun e=>absurd rfl e,hW⟩⟩
theorem tD (h:Q .normal a w) (hr:Region.ready .any l.toArray listed=[]:=by kernel_rfl):wpAnyT P .any l.toArray Q S t fuel listed a w:=wpAnyT_done hr h fuel
end
end Go.Proofs.YtomnpfbebimpkaaGreatDoor

namespace Go.Proofs.YtomnpfbebimpkaaGreatDoor
set_option maxRecDepth 20000
open Go.RowKit
section
variable {w0 wb W : World} {z : Zu} {g : Gm} {b0 : Nat}
theorem zvb {v:Value} (h:Bz w0 z g b0 wb) (hb:Below wb.heap.size wb W) (e:z.vb=v):W.cell? ⟨z.p,1,none⟩=some v:=by rw[←e];exact(h.below hb).z.vb_
theorem zvo {v:Value} (h:Bz w0 z g b0 wb) (hb:Below wb.heap.size wb W) (e:z.vo=v):W.cell? ⟨z.p,2,none⟩=some v:=by rw[←e];exact(h.below hb).z.vo_
section
variable {z : Zu} {m : Ms} {i : Nat} {x : Zt} {L : List Rm} {vb vo : Value}
theorem end_z (hi:i=plO (z.ts.map (·.tx)) m.txn) (hx:z.ts[i]? =some x):endB z.un m.txn=x.ms.map (·.u)∧endO z.un m.txn=(z.ts.take i++z.ts.drop (i+1)).map (·.tx):=by
 have hx':(z.ts.map (·.tx))[i]? =some x.tx:=(by rw[List.getElem?_map,hx];rfl);have hl:i<(z.ts.map (·.tx)).length:=(List.getElem?_eq_some_iff.1 hx').1;constructor
 ·unfold endB;rw[show plO z.un.opn m.txn=i from hi.symm,if_pos (show i<z.un.opn.length from hl)];unfold txO;rw[show z.un.opn[i]? =some x.tx from hx'];rfl
 ·unfold endO;rw[show plO z.un.opn m.txn=i from hi.symm,show z.un.opn=z.ts.map (·.tx) from rfl,List.eraseIdx_eq_take_drop_succ,List.map_append,List.map_take,List.map_drop]
theorem takeS_zend3 (h:sndMs m=true) (hk:m.kind=3) (hi:i=plO (z.ts.map (·.tx)) m.txn) (hx:z.ts[i]? =some x) (hL:L.map (·.u)=layL (z.L.map (·.u)) (x.ms.map (·.u))):takeS z.un m=(⟨z.p,z.room,vb,L,vo,z.ts.take i++z.ts.drop (i+1),z.fail⟩:Zu).un:=by
 obtain⟨e1,e2⟩:=end_z hi hx;unfold takeS;rw[if_neg (sndNot h),if_neg (by omega),if_pos hk,e1,e2];show(⟨z.room,layL (z.L.map (·.u)) (x.ms.map (·.u)),_,z.fail⟩:Un)=⟨z.room,L.map (·.u),_,z.fail⟩;rw[hL]
theorem takeS_zend4 (h:sndMs m=true) (hk:m.kind=4) (hi:i=plO (z.ts.map (·.tx)) m.txn) (hx:z.ts[i]? =some x):takeS z.un m=(⟨z.p,z.room,z.vb,z.L,vo,z.ts.take i++z.ts.drop (i+1),z.fail⟩:Zu).un:=by
 obtain⟨_,e2⟩:=end_z hi hx;unfold takeS;rw[if_neg (sndNot h),if_neg (by omega),if_neg (by omega),if_pos hk,e2];rfl
theorem un_old {s:Un} {t:Int} (h:plO s.opn t<s.opn.length):s={ s with opn:=opnO s.opn t}:=by unfold opnO;rw[if_pos h]
theorem un_new1 {t:Int} (h:¬plO z.un.opn t<z.un.opn.length):(⟨z.p,z.room,z.vb,z.L,vo,z.ts++[newZ t],z.fail⟩:Zu).un={ z.un with opn:=opnO z.un.opn t}:=by
 unfold opnO;rw[if_neg h];show(⟨z.room,_,(z.ts++[newZ t]).map (·.tx),z.fail⟩:Un)=⟨z.room,_,z.ts.map (·.tx)++[⟨t,[],false⟩],z.fail⟩;rw[List.map_append];rfl
theorem txO_z {s:Un} {t:Int} (hu:z.un={ s with opn:=opnO s.opn t}) (hi:i=plO s.opn t) (hx:z.ts[i]? =some x):txO (opnO s.opn t) (plO s.opn t)=x.tx:=by
 have e:opnO s.opn t=z.ts.map (·.tx):=(congrArg Un.opn hu).symm;unfold txO;rw[e,←hi,List.getElem?_map,hx];rfl
theorem un_set {s:Un} {t:Int} {x':Zt} {y:Tx} {fl:Bool} (hu:z.un={ s with opn:=opnO s.opn t}) (hi:i=plO s.opn t) (hy:x'.tx=y) (hf:fl=false):(⟨z.p,z.room,z.vb,z.L,z.vo,z.ts.set i x',fl⟩:Zu).un={ s with opn:=(opnO s.opn t).set (plO s.opn t) y,fail:=false}:=by
 have e:z.ts.map (·.tx)=opnO s.opn t:=congrArg Un.opn hu;have e1:z.room=s.room:=congrArg Un.room hu;have e2:z.L.map (·.u)=s.base:=congrArg Un.base hu;show(⟨z.room,z.L.map (·.u),(z.ts.set i x').map (·.tx),fl⟩:Un)=_;rw[List.map_set,e,e1,e2,hy,hf,hi]
theorem judE_three {room:Int} {us:List Ru} {o:List Tx} {m:Mu} (h:applyE (viewO us o) m bigI=0) (hk:m.kind=1) (hr:room<((keysU us (chgO o++[m])).length:Int)):judE room us o m=3:=by unfold judE;rw[if_neg (by rw[h];decide),if_pos ⟨hk,hr⟩]
theorem judE_nil {room:Int} {us:List Ru} {o:List Tx} {m:Mu} (h:applyE (viewO us o) m bigI=0) (hk:¬(m.kind=1∧room<((keysU us (chgO o++[m])).length:Int))):judE room us o m=0:=by unfold judE;rw[if_neg (by rw[h];decide),if_neg hk]
section
variable {s : Un} {t e : Int} {y : Tx} {a : Mu}
theorem chgE_fail (hy:txO (opnO s.opn t) (plO s.opn t)=y) (hr:y.ref=false) (hf:s.fail=true):chgE s t a=16:=by unfold chgE;rw[hy,hr,hf];rfl
theorem chgE_judge (hy:txO (opnO s.opn t) (plO s.opn t)=y) (hr:y.ref=false) (hf:s.fail=false):chgE s t a=judE s.room s.base (opnO s.opn t) a:=by unfold chgE;rw[hy,hr,hf];rfl
theorem tk_ref (h:sndMs m=true) (hk:m.kind=1) (hr:(txO (opnO s.opn m.txn) (plO s.opn m.txn)).ref=true):takeA s m=[]∧takeS s m={ s with opn:=opnO s.opn m.txn}:=by
 rw[takeA_mod h hk,takeS_mod h hk];unfold chgE chgS;rw[hr];exact⟨rfl,rfl⟩
theorem tk_no (h:sndMs m=true) (hk:m.kind=1) (hy:txO (opnO s.opn m.txn) (plO s.opn m.txn)=y) (hr:y.ref=false) (he:chgE s m.txn m.mod=e) (hn:e≠0):takeA s m=[errM m.txn e]∧takeS s m={ s with opn:=(opnO s.opn m.txn).set (plO s.opn m.txn) y.no,fail:=false}:=by
 rw[takeA_mod h hk,takeS_mod h hk];unfold chgS errL;rw[he,hy,hr,if_neg hn,if_neg hn];exact⟨rfl,rfl⟩
theorem tk_push (h:sndMs m=true) (hk:m.kind=1) (hy:txO (opnO s.opn m.txn) (plO s.opn m.txn)=y) (hr:y.ref=false) (he:chgE s m.txn m.mod=0):takeA s m=[]∧takeS s m={ s with opn:=(opnO s.opn m.txn).set (plO s.opn m.txn) (y.push m.mod),fail:=false}:=by
 rw[takeA_mod h hk,takeS_mod h hk];unfold chgS errL;rw[he,hy,hr];exact⟨rfl,rfl⟩
theorem view_of {t:Int} (hu:z.un={ s with opn:=opnO s.opn t}):z.un.view=viewO s.base (opnO s.opn t):=by rw[hu];rfl
theorem keys_of {t:Int} {l:List Mu} (hu:z.un={ s with opn:=opnO s.opn t}):keysU z.un.base (chgO z.un.opn++l)=keysU s.base (chgO (opnO s.opn t)++l):=by rw[hu]
end
theorem end_no {s:Un} {t:Int} (h:¬plO s.opn t<s.opn.length):endB s t=[]∧endO s t=s.opn:=⟨by unfold endB;rw[if_neg h],by unfold endO;rw[List.eraseIdx_of_length_le (by omega)]⟩
theorem takeS_non3 {s:Un} (h:sndMs m=true) (hk:m.kind=3) (hn:¬plO s.opn m.txn<s.opn.length):takeS s m=s:=by
 obtain⟨e1,e2⟩:=end_no hn;unfold takeS;rw[if_neg (sndNot h),if_neg (by omega),if_pos hk,e1,e2];rfl
theorem takeS_non4 {s:Un} (h:sndMs m=true) (hk:m.kind=4) (hn:¬plO s.opn m.txn<s.opn.length):takeS s m=s:=by
 obtain⟨_,e2⟩:=end_no hn;unfold takeS;rw[if_neg (sndNot h),if_neg (by omega),if_neg (by omega),if_pos hk,e2]
end
theorem readWpZ {o:Oper} {a:Act} {w:World} {Kt:Act→World→Prop} {Q:Exit→Act→World→Prop} (v:Value) (hv:(execOp a.eval o).run Tryz.prog w= .ok (.value v) w) (h:Kt (a.put o.dst v) w):o.wp Tryz.prog a w Kt Q:=by
 unfold Oper.wp;rw[hv];exact h
theorem rowO {i gO c:Nat} {x:Zt} (h:Bz w0 z g b0 wb) (hb:Below wb.heap.size wb W) (hv:z.vo= .slice (some ⟨gO,0,none⟩) z.ts.length c) (hx:z.ts[i]? =some x):CellsO W gO (i*3) x:=by
 have ho:=(h.below hb).z.opn;rw[hv] at ho;exact ho.cellsO hx
theorem KOwns.thereO {B gO c i m:Nat} {ts:List Zt} (h:KOwns KO B (.slice (Option.some ⟨gO,0,none⟩) ts.length c) ts W) (hi:i<ts.length) (hm:m<3):W.there gO (i*3+m) 1:=fun t ht=>by
 obtain⟨hA,_⟩:=KAt.of okO h;have:=hA.there (i:=i) (by have:=hA.1;omega) (m+t) (by show m+t<3;omega);rwa [show i*KO.n+(m+t)=i*3+m+t by show i*3+(m+t)=_;omega] at this
theorem Blk.other0 {b:Nat} {cs:Array Value} {t:TypeId} {W W':World} {r:Option Nat} (h:Blk b cs t W) (hg:W.grownBy W' r) (hn:r≠some b):Blk b cs t W':=(hg.block b h.lt fun e=>hn e.symm).trans h
end
end Go.Proofs.YtomnpfbebimpkaaGreatDoor
