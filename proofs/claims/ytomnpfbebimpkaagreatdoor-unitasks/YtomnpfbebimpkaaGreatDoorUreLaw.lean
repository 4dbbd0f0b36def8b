/-
  A unit and the reference's, newly made; what a statement looks at of both.
-/
import Derived.Test.YtomnpfbebimpkaaGreatDoorUrePly
import Derived.Test.YtomnpfbebimpkaaGreatDoorPackUniS
import Derived.Test.YtomnpfbebimpkaaGreatDoorSq
namespace Go.Proofs.YtomnpfbebimpkaaGreatDoor
set_option maxRecDepth 20000
theorem rkey_trans {a b c:Ru} (h1:keyB a b=true) (h2:keyB b c=true):keyB a c=true:=by
 have e1:=(key_iff a b).1 h1;have e2:=(key_iff b c).1 h2;have n1:=rOrd_ordd.neg a b;have n2:=rOrd_ordd.neg b c;have n3:=rOrd_ordd.neg a c;have t1:=rOrd_ordd.trans a b c (by omega) (by omega);have t2:=rOrd_ordd.trans c b a (by omega) (by omega);exact(key_iff a c).2 (by omega)
theorem hasK_key {ks:List Ru} {a b:Ru} (h:hasK ks a=true) (hk:keyB a b=true):hasK ks b=true:=by
 unfold hasK at*;rw[List.any_eq_true] at*;obtain⟨k,hk1,hk2⟩:=h;exact⟨k,hk1,rkey_trans hk2 hk⟩
theorem hasK_mem {ks:List Ru} {u:Ru} (h:u∈ks):hasK ks u=true:=by
 unfold hasK;exact List.any_eq_true.2 ⟨u,h,keyB_self u⟩
theorem hasK_add {ks:List Ru} {u:Ru} (h:hasK ks u=true) (r:Ru):hasK (addK ks r) u=true:=by
 unfold addK;split
 ·exact h
 ·unfold hasK at*;rw[List.any_append,h];rfl
theorem hasK_addK (ks:List Ru) (r:Ru):hasK (addK ks r) r=true:=by
 unfold addK;split
 ·assumption
 ·exact hasK_mem (by simp)
theorem hasK_adds {u:Ru}:∀(rs ks:List Ru),hasK ks u=true∨u∈rs→hasK (addsK ks rs) u=true
 |[],_,h=>h.elim id fun q=>(by cases q)
 |r::rs,ks,h=>by
  show hasK (addsK (addK ks r) rs) u=true;refine hasK_adds rs _ ?_;rcases h with h|h
  ·exact .inl (hasK_add h r)
  ·rcases List.mem_cons.1 h with rfl|h
   ·exact .inl (hasK_addK ks u)
   ·exact .inr h
theorem len_split (p:Ru→Bool):∀us:List Ru,us.length=(us.filter fun u=>p u).length+(us.filter fun u=>!p u).length
 |[]=>rfl
 |u::us=>by
  have:=len_split p us;rw[List.filter_cons,List.filter_cons,List.length_cons];cases p u
  ·simp only[Bool.false_eq_true,if_false,Bool.not_false,if_true,List.length_cons];omega
  ·simp only[Bool.not_true,Bool.false_eq_true,if_false,if_true,List.length_cons];omega
theorem dist_len:∀(ks us:List Ru),Dist us→(∀u∈us,hasK ks u=true)→us.length≤ks.length
 |[],us,_,h=>by
  cases us with
  |nil=>exact Nat.le_refl _
  |cons u us=>exact absurd (h u (by simp)) (by simp[hasK])
 |k::ks,us,hd,h=>by
  have h1:(us.filter fun u=>!keyB k u).length≤ks.length:=dist_len ks _ (hd.sublist List.filter_sublist) fun u hu=>(by obtain⟨hu1,hu2⟩:=List.mem_filter.1 hu;have:=h u hu1;unfold hasK at*;rw[List.any_cons] at this;rw[show keyB k u=false by simpa using hu2] at this;exact this);have h2:(us.filter fun u=>keyB k u).length≤1:=by
   have hp:(us.filter fun u=>keyB k u).Pairwise fun a b=>keyB a b=false:=List.Pairwise.sublist List.filter_sublist hd;have hm:∀u∈us.filter fun u=>keyB k u,keyB k u=true:=fun u hu=>(List.mem_filter.1 hu).2;match us.filter fun u=>keyB k u,hp,hm with
   |[],_,_=>exact Nat.zero_le _
   |[_],_,_=>exact Nat.le_refl _
   |a::b::l,hp,hm=>have q1:=(List.pairwise_cons.1 hp).1 b (by simp);have q2:=rkey_trans (by rw[keyB_symm];exact hm a (by simp)) (hm b (by simp));rw[q1] at q2;cases q2
  have h3:=len_split (fun u=>keyB k u) us;simp only[List.length_cons];omega
structure Cov (ks us : List Ru) (ms : List Mu) : Prop where
  base : ∀ u ∈ us, hasK ks u = true
  adds : ∀ m ∈ ms, m.kind = 1 → hasK ks (kyU m) = true
theorem Cov.sub {ks us:List Ru} {ms ns:List Mu} (h:Cov ks us ms) (hs:∀m∈ns,m∈ms):Cov ks us ns:=⟨h.base,fun m hm=>h.adds m (hs m hm)⟩
theorem cov_lay1 {ks us:List Ru} {m:Mu} (h:∀u∈us,hasK ks u=true) (hm:m.kind=1→hasK ks (kyU m)=true):∀u∈lay1 us m,hasK ks u=true:=fun u hu=>by
 unfold lay1 at hu;split at hu
 ·unfold applyL at hu;split at hu
  ·rename_i hk;rcases List.mem_append.1 (List.mem_filter.1 (srtL_sub rOrd_ordd hu)).1 with q|q
   ·exact h u q
   ·simp only[List.mem_cons,List.not_mem_nil,or_false] at q;subst q;exact hasK_key (hm hk) (by show keyB (newU m) (newU m)=true;exact keyB_self _)
  ·split at hu
   ·obtain⟨v,hv,rfl⟩:=List.mem_map.1 hu;refine hasK_key (h v hv) ?_;have e:keyB v (modU m v)=keyB v v:=key_congr rfl rfl (mod_m m v).1 (mod_m m v).2.1;rw[e];exact keyB_self v
   ·exact h u (List.mem_filter.1 hu).1
 ·exact h u hu
theorem cov_layL {ks:List Ru}:∀{ms:List Mu} {us:List Ru},Cov ks us ms→∀u∈layL us ms,hasK ks u=true
 |[],_,h=>h.base
 |m::ms,us,h=>fun u hu=>by rw[layL_cons] at hu;exact cov_layL (ms:=ms) (us:=lay1 us m) ⟨cov_lay1 h.base (h.adds m (by simp)),fun k hk=>h.adds k (by simp[hk])⟩ u hu
def Rom (s : Un) : Prop := ∃ ks : List Ru, (ks.length : Int) ≤ s.room ∧ Cov ks s.base (chgO s.opn)
theorem Rom.new {r:Int} (h:0≤r):Rom ⟨r,[],[],false⟩:=⟨[],h,fun u hu=>(by cases hu),fun m hm=>(by cases hm)⟩
theorem Rom.base {s:Un} {n:Nat} (h:Rom s) (hf:Fit n s):(s.base.length:Int)≤s.room:=by
 obtain⟨ks,h1,h2⟩:=h;have:=dist_len ks s.base (tab_dist hf.tab) h2.base;omega
theorem Rom.view {s:Un} {n:Nat} (h:Rom s) (hf:Fit n s):(s.view.length:Int)≤s.room:=by
 obtain⟨ks,h1,h2⟩:=h;have:=dist_len ks s.view (tab_dist hf.view_tab) (cov_layL h2);omega
theorem Rom.same {s s':Un} (h:Rom s) (hr:s'.room=s.room) (hb:∀u∈s'.base,∃v∈s.base,keyB v u=true) (hc:∀m∈chgO s'.opn,m∈chgO s.opn):Rom s':=by
 obtain⟨ks,h1,h2⟩:=h;exact⟨ks,by rw[hr];exact h1,fun u hu=>(by obtain⟨v,hv,hk⟩:=hb u hu;exact hasK_key (h2.base v hv) hk),fun m hm=>h2.adds m (hc m hm)⟩
theorem Rom.of_eq {s s':Un} (h:Rom s) (hr:s'.room=s.room) (hb:s'.base=s.base) (hc:∀m∈chgO s'.opn,m∈chgO s.opn):Rom s':=h.same hr (fun u hu=>⟨u,by rw[←hb];exact hu,keyB_self u⟩) hc
theorem Rom.change {s:Un} (h:Rom s) (t:Int) (m:Mu):Rom (chgS s t m):=by
 have hx:=opnO_at s.opn t;have hco:=chg_opn s.opn t;unfold chgS;split
 ·exact h.of_eq rfl rfl fun k hk=>by rw[←hco];exact hk
 ·rename_i hr;split
  ·rename_i he;have hin:∀k∈chgO ((opnO s.opn t).set (plO s.opn t) ((txO (opnO s.opn t) (plO s.opn t)).push m)),k∈chgO s.opn∨k=m:=fun k hk=>by
    rcases chg_set_mem hx k hk with q|q
    ·rw[hco] at q;exact .inl q
    ·rcases List.mem_append.1 (show k∈_++[m] from q) with q|q
     ·have:=chg_get hx k q;rw[hco] at this;exact .inl this
     ·simp only[List.mem_cons,List.not_mem_nil,or_false] at q;exact .inr q
   by_cases hk:m.kind=1
   ·have hj:((keysU s.base (chgO (opnO s.opn t)++[m])).length:Int)≤s.room:=by
     unfold chgE at he;rw[if_neg hr] at he;split at he
     ·cases he
     ·unfold judE at he;split at he
      ·rename_i h1;exact absurd he h1
      ·split at he
       ·cases he
       ·rename_i h1;rw[hco] at h1 ⊢;have:¬s.room<((keysU s.base (chgO s.opn++[m])).length:Int):=fun q=>h1 ⟨hk,q⟩;omega
    refine⟨keysU s.base (chgO (opnO s.opn t)++[m]),hj,fun u hu=>hasK_adds _ _ (.inl (hasK_mem hu)),fun k hkm hk1=>hasK_adds _ _ (.inr ?_)⟩;unfold addL;refine List.mem_map.2 ⟨k,List.mem_filter.2 ⟨?_,by simpa using hk1⟩,rfl⟩;rw[hco];rcases hin k hkm with q|q
    ·simp[q]
    ·simp[q]
   ·obtain⟨ks,h1,h2⟩:=h;refine⟨ks,h1,h2.base,fun k hkm hk1=>?_⟩;rcases hin k hkm with q|rfl
    ·exact h2.adds k q hk1
    ·exact absurd hk1 hk
  ·refine h.of_eq rfl rfl fun k hk=>?_;rcases chg_set_mem hx k hk with q|q
   ·rw[hco] at q;exact q
   ·have:=chg_get hx k q;rw[hco] at this;exact this
theorem Rom.take {s:Un} (h:Rom s) (m:Ms):Rom (takeS s m):=by
 unfold takeS;split
 ·exact h
 split
 ·exact h.change _ _
 split
 ·obtain⟨ks,h1,h2⟩:=h;exact⟨ks,h1,cov_layL (h2.sub (endB_mem s m.txn)),fun k hk=>h2.adds k (chg_erase _ _ k hk)⟩
 split
 ·exact h.of_eq rfl rfl fun k hk=>chg_erase _ _ k hk
 ·exact h
theorem Rom.pkt {s:Un} (h:Rom s) (p:Int) (hd:Nat→Int):Rom (pktS s p hd):=by
 unfold pktS;split
 ·exact h
 split
 ·rename_i i _;refine h.same rfl (fun u hu=>?_) fun k hk=>hk;have hu':u∈hitL (i:Int) s.base:=hu;unfold hitL at hu';split at hu'
  ·rcases mem_modify_hit s.base _ u hu' with q|⟨x,hx,rfl⟩
   ·exact⟨u,q,keyB_self u⟩
   ·exact⟨x,hx,keyB_self x⟩
  ·exact⟨u,hu',keyB_self u⟩
 ·exact h
theorem Rom.tick {s:Un} (h:Rom s) (n:Int):Rom (tickS s n):=by
 refine h.same rfl (fun u hu=>?_) fun k hk=>hk;obtain⟨x,hx,rfl⟩:=List.mem_map.1 (List.mem_filter.1 (show u∈leftL (clampN n) s.base from hu)).1;exact⟨x,hx,keyB_self x⟩
theorem Rom.fail {s:Un} (h:Rom s):Rom (failS s):=h.of_eq rfl rfl fun _ hk=>hk
theorem chg_room (s:Un) (t:Int) (m:Mu):(chgS s t m).room=s.room:=by
 unfold chgS;split<;>rfl
theorem take_room (s:Un) (m:Ms):(takeS s m).room=s.room:=by
 unfold takeS;split
 ·rfl
 split
 ·exact chg_room s _ _
 split
 ·rfl
 split<;>rfl
theorem pkt_room (s:Un) (p:Int) (hd:Nat→Int):(pktS s p hd).room=s.room:=by
 unfold pktS;split
 ·rfl
 split<;>rfl
end Go.Proofs.YtomnpfbebimpkaaGreatDoor

namespace Go.Proofs.YtomnpfbebimpkaaGreatDoor
set_option maxRecDepth 20000
open Go.RowKit
def nilZu (b : Nat) (r : Int) : Zu := ⟨b, r, .slice none 0 0, [], .slice none 0 0, [], false⟩
theorem Ply.new {w0 W W':World} {B n:Nat} {y:Um} {s:Un} {r:Int} (h:Stt w0 B y s n W) (hb:Below W.heap.size W W') (hk:Blk W.heap.size (zuca (nilZu 0 r)) 30 W'):Ply w0 B y s (nilZu W.heap.size r) n W':=⟨h.below hb,⟨hk,h.bel.size,KOwns.nil _ _,fun y hy=>(by cases hy),KOwns.nil _ _,fun t ht=>(by cases ht),fun t ht=>(by cases ht),h.bel.trans (hb.mono h.bel.size)⟩,⟨⟨fun u hu=>(by cases hu),fun u hu=>(by cases hu),List.nodup_nil,Nat.zero_le _,Nat.zero_le _,rfl,fun u hu=>(by cases hu)⟩,h.fit.n⟩,fun g hg hm=>by have e:g=W.heap.size:=(by simpa [Zu.muts,nilZu,ownL,mutsZ,Value.ownBlock] using hm);have:=h.uni.muts.lt g hg;omega⟩
theorem Rom.play {s:Un} (h:Rom s) (x:Xm):Rom (playS s x):=by
 unfold playS;split
 ·exact h.take _
 split
 ·exact h.pkt _ _
 split
 ·exact h.tick _
 ·exact h.fail
theorem play_room (s:Un) (x:Xm):(playS s x).room=s.room:=by
 unfold playS;split
 ·exact take_room s _
 split
 ·exact pkt_room s _ _
 split<;>rfl
theorem same_us {us:List Ru} (hw:WfUL us) (hn:us.length≤9000) {va vb:Value} {La Lb:List Rm} (ha:La.map (·.u)=us) (hb:Lb.map (·.u)=us) (W:World) (h1:RLies va La W) (h2:RLies vb Lb W):Calls Tryz.prog 14 #[va,vb] W fun e w'=>e= .returned (.bool true)∧Below W.heap.size W w':=by
 have hl:=congrArg List.length ha;rw[List.length_map] at hl;exact rsame_eq va vb La Lb (by omega) (WfUL.rl hw hb) (ha.trans hb.symm) W h1 h2
theorem table_us {us:List Ru} (hw:WfUL us) (hn:us.length≤9000) (ht:tabU us=true) {v:Value} {L:List Rm} (hu:L.map (·.u)=us) (W:World) (h:RLies v L W):Calls Tryz.prog 22 #[v] W fun e w'=>e= .returned (.bool true)∧Below W.heap.size W w':=by
 have hl:=congrArg List.length hu;rw[List.length_map] at hl;have:=rtable_b v L (by omega) (WfUL.rl hw hu) W h;rwa [tabB_tabU,hu,ht] at this
section
variable {w0 W : World} {B n : Nat} {y : Um} {s : Un}
theorem Stt.fitS (h:Stt w0 B y s n W):Fit n s:=by have:=h.fit.fit;rwa [h.un] at this
theorem Stt.base_len (h:Stt w0 B y s n W):WfUL s.base∧s.base.length≤9000:=⟨h.fitS.base,by have:=h.fitS.size;have:=h.fit.n;omega⟩
theorem Stt.view_len (h:Stt w0 B y s n W):WfUL s.view∧s.view.length≤9000:=⟨h.fitS.view,by have:=h.fitS.view_len;have:=h.fit.n;omega⟩
end
end Go.Proofs.YtomnpfbebimpkaaGreatDoor
