/- Several of my texts as one: UniMath, UniTwoM, UniSnd. -/
import Derived.Test.YtomnpfbebimpkaaGreatDoorModSam
import Derived.Test.YtomnpfbebimpkaaGreatDoorSq
import Derived.Test.YtomnpfbebimpkaaGreatDoorLapTk
import Derived.Test.YtomnpfbebimpkaaGreatDoorLapRt
import Derived.Test.YtomnpfbebimpkaaGreatDoorLapRHit
import Derived.Test.YtomnpfbebimpkaaGreatDoorPackRuleB
import Derived.Test.YtomnpfbebimpkaaGreatDoorPackCodM
namespace Go.Proofs.YtomnpfbebimpkaaGreatDoor
set_option maxRecDepth 20000
open Go.RowKit
theorem wf_tick {u:Ru} (h:WfR u) {m:Int} (h0:0≤m) (h1:m≤1048576):WfR (tickU m u):=⟨h.m,h.a,h.room,h.nums.1,h.nums.2.1,h.nums.2.2.1,h.nums.2.2.2.1,h.nums.2.2.2.2.1,more_range h.nums.2.2.2.2.2.1 h0 h1,more_range h.nums.2.2.2.2.2.2 h0 h1⟩
theorem wf_left {us:List Ru} (h:WfUL us) {m:Int} (h0:0≤m) (h1:m≤1048576):WfUL (leftL m us):=fun u hu=>by
 obtain⟨x,hx,rfl⟩:=List.mem_map.1 (List.mem_filter.1 hu).1;exact wf_tick (h x hx) h0 h1
theorem wf_gone {us:List Ru} (h:WfUL us) {m:Int} (h0:0≤m) (h1:m≤1048576):WfUL (goneL m us):=fun u hu=>by
 obtain⟨x,hx,rfl⟩:=List.mem_map.1 (List.mem_filter.1 hu).1;exact wf_tick (h x hx) h0 h1
theorem wf_hit {us:List Ru} (h:WfUL us) (i:Int):WfUL (hitL i us):=fun u hu=>by
 by_cases hi:i<0∨(us.length:Int)≤i
 ·rw[hitL_no hi] at hu;exact h u hu
 ·obtain⟨j,rfl⟩:∃j:Nat,i=(j:Int):=⟨i.toNat,by omega⟩;have hj:j<us.length:=(by omega);have hx:=List.getElem?_eq_getElem hj;rw[hitL_at hx] at hu;have wx:=h _ (List.mem_of_getElem? hx);rcases List.mem_or_eq_of_mem_set hu with hu|rfl
  ·exact h u hu
  ·exact⟨wx.m,wx.a,wx.room,wx.nums.1,wx.nums.2.1,wx.nums.2.2.1,wx.nums.2.2.2.1,more_range wx.nums.2.2.2.2.1 (by decide) (by decide),⟨by show(-9223372036854775808:Int)≤0;decide,by show(0:Int)≤9223372036854775807;decide⟩,wx.nums.2.2.2.2.2.2⟩
section
variable {w w0 W : World} {va vb : Value} {A B : List Rm} {base : Nat}
end
end Go.Proofs.YtomnpfbebimpkaaGreatDoor

/-
  What a unit is, and what becomes of it: no word of any program.
-/
namespace Go.Proofs.YtomnpfbebimpkaaGreatDoor
set_option maxRecDepth 20000
structure Tx where
  id : Int
  list : List Mu
  ref : Bool
structure Un where
  room : Int
  base : List Ru
  opn : List Tx
  fail : Bool
def bigI : Int := 9223372036854775807
def lay1 (us : List Ru) (m : Mu) : List Ru := if applyE us m bigI = 0 then applyL us m else us
def layL (us : List Ru) (ms : List Mu) : List Ru := ms.foldl lay1 us
def chgO (o : List Tx) : List Mu := o.flatMap (·.list)
def viewO (us : List Ru) (o : List Tx) : List Ru := layL us (chgO o)
def Un.view (s : Un) : List Ru := viewO s.base s.opn
section
variable {us : List Ru} {m : Mu} {ms ns : List Mu}
theorem layL_cons (us:List Ru) (m:Mu) (ms:List Mu):layL us (m::ms)=layL (lay1 us m) ms:=rfl
theorem layL_append (us:List Ru) (ms ns:List Mu):layL us (ms++ns)=layL (layL us ms) ns:=by unfold layL;rw[List.foldl_append]
theorem layL_snoc (us:List Ru) (ms:List Mu) (m:Mu):layL us (ms++[m])=lay1 (layL us ms) m:=by rw[layL_append];rfl
theorem lay1_len (us:List Ru) (m:Mu):(lay1 us m).length≤us.length+1:=by
 unfold lay1;split
 ·exact(apply_len us m).1
 ·omega
theorem layL_len:∀(ms:List Mu) (us:List Ru),(layL us ms).length≤us.length+ms.length
 |[],us=>Nat.le_refl _
 |m::ms,us=>by rw[layL_cons];have h1:=layL_len ms (lay1 us m);have h2:=lay1_len us m;rw[List.length_cons];omega
def WfMUL (ms : List Mu) : Prop := ∀ m ∈ ms, WfM m
theorem lay1_wf (hu:WfUL us) (hm:WfM m):WfUL (lay1 us m):=by
 unfold lay1;split
 ·exact wf_apply hu hm
 ·exact hu
theorem layL_wf:∀{ms:List Mu} {us:List Ru},WfUL us→WfMUL ms→WfUL (layL us ms)
 |[],_,hu,_=>hu
 |m::ms,us,hu,hm=>by rw[layL_cons];exact layL_wf (lay1_wf hu (hm m (by simp))) fun x hx=>hm x (by simp[hx])
theorem lay1_tab (h:tabU us=true):tabU (lay1 us m)=true:=by
 unfold lay1;split
 ·rename_i e;exact apply_tab e
 ·exact h
theorem layL_tab:∀{ms:List Mu} {us:List Ru},tabU us=true→tabU (layL us ms)=true
 |[],_,h=>h
 |m::ms,us,h=>by rw[layL_cons];exact layL_tab (lay1_tab h)
theorem applyE_room {r1 r2:Int} (h1:(us.length:Int)<r1) (h2:(us.length:Int)<r2):applyE us m r1=applyE us m r2:=by
 unfold applyE;rw[show decide (r1≤(us.length:Int))=false by simp;omega,show decide (r2≤(us.length:Int))=false by simp;omega]
theorem chgO_append (o k:List Tx):chgO (o++k)=chgO o++chgO k:=by simp[chgO]
theorem chgO_cons (t:Tx) (o:List Tx):chgO (t::o)=t.list++chgO o:=rfl
end
def kyU (m : Mu) : Ru := ⟨m.m, m.p, [], 0, 0, 0, 0, 0, 0⟩
def kyR (u : Ru) : Ru := ⟨u.m, u.p, [], 0, 0, 0, 0, 0, 0⟩
def hasK (ks : List Ru) (r : Ru) : Bool := ks.any fun k => keyB k r
def addK (ks : List Ru) (r : Ru) : List Ru := if hasK ks r then ks else ks ++ [r]
def addsK (ks rs : List Ru) : List Ru := rs.foldl addK ks
def addL (ms : List Mu) : List Ru := (ms.filter fun m => decide (m.kind = 1)).map kyU
def keysU (us : List Ru) (ms : List Mu) : List Ru := addsK us (addL ms)
theorem hasK_map (ks:List Ru) (r:Ru):hasK (ks.map kyR) r=hasK ks r:=by
 unfold hasK;rw[List.any_map];rfl
theorem addK_map (ks:List Ru) (r:Ru):(addK ks r).map kyR=addK (ks.map kyR) (kyR r):=by
 have e:hasK (ks.map kyR) (kyR r)=hasK ks r:=hasK_map ks r;unfold addK;rw[e];split
 ·rfl
 ·rw[List.map_append];rfl
theorem addsK_map:∀(rs ks:List Ru),(addsK ks rs).map kyR=addsK (ks.map kyR) (rs.map kyR)
 |[],_=>rfl
 |r::rs,ks=>by show(addsK (addK ks r) rs).map kyR=addsK (addK (ks.map kyR) (kyR r)) (rs.map kyR);rw[addsK_map rs,addK_map]
theorem addsK_append (ks a b:List Ru):addsK ks (a++b)=addsK (addsK ks a) b:=by unfold addsK;rw[List.foldl_append]
def Dist (ks : List Ru) : Prop := ks.Pairwise fun a b => keyB a b = false
theorem addsK_dist:∀(rs ks:List Ru),Dist (ks++rs)→addsK ks rs=ks++rs
 |[],ks,_=>by simp[addsK]
 |r::rs,ks,h=>by have h1:hasK ks r=false:=(by unfold hasK;rw[List.any_eq_false];intro k hk;unfold Dist at h;rw[List.pairwise_append] at h;have:=h.2.2 k hk r (by simp);rw[this];decide);show addsK (addK ks r) rs=_;have h2:addK ks r=ks++[r]:=(by unfold addK;rw[h1];rfl);rw[h2,addsK_dist rs (ks++[r]) (by simpa using h)];simp
theorem tab_dist {us:List Ru} (h:tabU us=true):Dist us:=by
 have h2:=((tabU_iff us).1 h).2;unfold Srt at h2;unfold Dist;refine h2.imp fun{a b} hab=>?_;rw[key_ord];simp;omega
theorem Dist.map {us:List Ru} (h:Dist us):Dist (us.map kyR):=by
 unfold Dist at*;rw[List.pairwise_map];exact h
theorem keys_count {us:List Ru} (h:tabU us=true) (ms:List Mu):(addsK [] (us.map kyR++addL ms)).length=(keysU us ms).length:=by
 have e:addsK [] (us.map kyR)=us.map kyR:=(by have:=addsK_dist (us.map kyR) [] (by simpa using (tab_dist h).map);simpa using this);have e2:(addL ms).map kyR=addL ms:=(by unfold addL;rw[List.map_map];rfl);rw[addsK_append,e];unfold keysU;have:=addsK_map (addL ms) us;rw[e2] at this;rw[←this,List.length_map]
def plO (o : List Tx) (t : Int) : Nat := (o.findIdx? fun x => x.id == t).getD o.length
def opnO (o : List Tx) (t : Int) : List Tx := if plO o t < o.length then o else o ++ [⟨t, [], false⟩]
def nTx : Tx := ⟨0, [], false⟩
def txO (o : List Tx) (i : Nat) : Tx := (o[i]?).getD nTx
def judE (room : Int) (us : List Ru) (o : List Tx) (m : Mu) : Int :=
  if applyE (viewO us o) m bigI ≠ 0 then applyE (viewO us o) m bigI
  else if m.kind = 1 ∧ room < ((keysU us (chgO o ++ [m])).length : Int) then 3 else 0
def chgE (s : Un) (t : Int) (m : Mu) : Int :=
  if (txO (opnO s.opn t) (plO s.opn t)).ref then 0 else if s.fail then 16 else judE s.room s.base (opnO s.opn t) m
def Tx.push (x : Tx) (m : Mu) : Tx := ⟨x.id, x.list ++ [m], x.ref⟩
def Tx.no (x : Tx) : Tx := ⟨x.id, x.list, true⟩
def chgS (s : Un) (t : Int) (m : Mu) : Un :=
  if (txO (opnO s.opn t) (plO s.opn t)).ref then { s with opn := opnO s.opn t }
  else { s with opn := (opnO s.opn t).set (plO s.opn t) (if chgE s t m = 0 then (txO (opnO s.opn t) (plO s.opn t)).push m else (txO (opnO s.opn t) (plO s.opn t)).no), fail := false }
def errM (t e : Int) : Ms := ⟨6, t, e, zMu, 0, zHd, []⟩
def errL (t e : Int) : List Ms := if e = 0 then [] else [errM t e]
def endB (s : Un) (t : Int) : List Mu := if plO s.opn t < s.opn.length then (txO s.opn (plO s.opn t)).list else []
def endO (s : Un) (t : Int) : List Tx := s.opn.eraseIdx (plO s.opn t)
def takeS (s : Un) (m : Ms) : Un :=
  if sndMs m = false then s
  else if m.kind = 1 then chgS s m.txn m.mod
  else if m.kind = 3 then { s with base := layL s.base (endB s m.txn), opn := endO s m.txn }
  else if m.kind = 4 then { s with opn := endO s m.txn }
  else s
def takeA (s : Un) (m : Ms) : List Ms :=
  if sndMs m = false then [errM m.txn 2]
  else if m.kind = 1 then errL m.txn (chgE s m.txn m.mod)
  else if m.kind = 2 then [⟨7, m.txn, 0, zMu, 0, zHd, []⟩]
  else if m.kind = 5 then [⟨10, m.txn, 0, zMu, 0, zHd, s.base⟩]
  else if m.kind = 3 ∨ m.kind = 4 then []
  else [errM m.txn 2]
def fndU (h : Nat → Int) (us : List Ru) : Option Nat := us.findIdx? fun u => hasB u.m h
def inH (port : Int) (h : Nat → Int) : Nat → Int := upd h 0 port
def portB (port : Int) : Bool := decide (1 ≤ port) && decide (port ≤ 16)
def ruAt (us : List Ru) (i : Nat) : Ru := (us[i]?).getD zRu
def pktS (s : Un) (port : Int) (h : Nat → Int) : Un :=
  if portB port = false then s else match fndU (inH port h) s.base with
    | some i => { s with base := hitL i s.base }
    | none => s
def pktL (s : Un) (port : Int) (h : Nat → Int) : List Sn :=
  if portB port = false then [] else match fndU (inH port h) s.view with
    | some i => runV (ruAt s.view i).acts (inH port h)
    | none => []
def pktT (s : Un) (port : Int) (h : Nat → Int) : Bool := match fndU (inH port h) s.view with
  | some i => runB (ruAt s.view i).acts
  | none => true
def pktA (s : Un) (port : Int) (h : Nat → Int) : List Ms := if portB port = false then [] else if pktT s port h then [⟨8, 0, 0, zMu, port, inH port h, []⟩] else []
structure Hp where
  port : Int
  head : Nat → Int
  hit : Bool
  prio : Int
  m : Nat → Int
def zHp : Hp := ⟨0, zHd, false, 0, fun _ => 0⟩
def pktH (s : Un) (port : Int) (h : Nat → Int) : Hp :=
  if portB port = false then zHp else match fndU (inH port h) s.view with
    | some i => ⟨port, inH port h, true, (ruAt s.view i).p, (ruAt s.view i).m⟩
    | none => ⟨port, inH port h, false, 0, fun _ => 0⟩
def tickS (s : Un) (n : Int) : Un := { s with base := leftL (clampN n) s.base }
def tickA (s : Un) (n : Int) : List Ms := (goneL (clampN n) s.base).map fun u => ⟨9, 0, 0, zMu, 0, zHd, [u]⟩
def failS (s : Un) : Un := { s with fail := true }
structure Fit (n : Nat) (s : Un) : Prop where
  base : WfUL s.base
  chg : WfMUL (chgO s.opn)
  ids : (s.opn.map (·.id)).Nodup
  size : s.base.length + (chgO s.opn).length ≤ n
  opn : s.opn.length ≤ n
  tab : tabU s.base = true
  snd : ∀ m ∈ chgO s.opn, sndM m = true
section
variable {o : List Tx} {t : Int} {s : Un} {n : Nat}
theorem plO_lt {i:Nat} (h:plO o t=i) (hi:i<o.length):∃x,o[i]? =some x∧x.id=t:=by
 unfold plO at h;cases hf:o.findIdx? fun x=>x.id==t with
 |none=>rw[hf] at h;simp at h;omega
 |some k=>rw[hf] at h;simp at h;subst h;rw[List.findIdx?_eq_some_iff_getElem] at hf;obtain⟨hk,h1,_⟩:=hf;exact⟨o[k],List.getElem?_eq_getElem hk,by simpa using h1⟩
theorem plO_le (o:List Tx) (t:Int):plO o t≤o.length:=by
 unfold plO;cases hf:o.findIdx? fun x=>x.id==t with
 |none=>simp
 |some k=>rw[List.findIdx?_eq_some_iff_getElem] at hf;obtain⟨hk,_⟩:=hf;simp;omega
theorem plO_none (h:¬plO o t<o.length):∀x∈o,x.id≠t:=by
 unfold plO at h;cases hf:o.findIdx? fun x=>x.id==t with
 |none=>rw[List.findIdx?_eq_none_iff] at hf;intro x hx;simpa using hf x hx
 |some k=>rw[hf] at h;rw[List.findIdx?_eq_some_iff_getElem] at hf;obtain⟨hk,_⟩:=hf;simp at h;omega
theorem plO_opn (o:List Tx) (t:Int):plO o t<(opnO o t).length:=by
 unfold opnO;split
 ·assumption
 ·have:=plO_le o t;rw[List.length_append,List.length_singleton];omega
theorem opnO_at (o:List Tx) (t:Int):(opnO o t)[plO o t]? =some (txO (opnO o t) (plO o t)):=by
 unfold txO;rw[List.getElem?_eq_getElem (plO_opn o t)];rfl
theorem chg_opn (o:List Tx) (t:Int):chgO (opnO o t)=chgO o:=by
 unfold opnO;split
 ·rfl
 ·rw[chgO_append];simp[chgO]
theorem opn_len (o:List Tx) (t:Int):(opnO o t).length≤o.length+1:=by
 unfold opnO;split
 ·omega
 ·rw[List.length_append,List.length_singleton];exact Nat.le_refl _
theorem opn_ids (h:(o.map (·.id)).Nodup) (t:Int):((opnO o t).map (·.id)).Nodup:=by
 unfold opnO;split
 ·exact h
 ·rename_i hn;have:=plO_none hn;rw[List.map_append,List.nodup_append];refine⟨h,by simp,fun a ha b hb=>?_⟩;simp at hb;subst hb;obtain⟨x,hx,rfl⟩:=List.mem_map.1 ha;exact this x hx
theorem chg_set_mem:∀{o:List Tx} {i:Nat} {x y:Tx},o[i]? =some x→∀m,m∈chgO (o.set i y)→m∈chgO o∨m∈y.list
 |[],_,_,_,h,_,_=>by simp at h
 |z::o,0,_,_,_,_,hm=>by
  rw[List.set_cons_zero,chgO_cons] at hm;rw[chgO_cons];rcases List.mem_append.1 hm with q|q
  ·exact .inr q
  ·exact .inl (by simp[q])
 |z::o,i+1,x,y,h,m,hm=>by
  rw[List.set_cons_succ,chgO_cons] at hm;rw[chgO_cons];rcases List.mem_append.1 hm with q|q
  ·exact .inl (by simp[q])
  ·rcases chg_set_mem (o:=o) (by simpa using h) m q with q|q
   ·exact .inl (by simp[q])
   ·exact .inr q
theorem chg_set_len:∀{o:List Tx} {i:Nat} {x y:Tx},o[i]? =some x→(chgO (o.set i y)).length+x.list.length=(chgO o).length+y.list.length
 |[],i,x,y,h=>by simp at h
 |z::o,0,x,y,h=>by simp at h;subst h;rw[List.set_cons_zero,chgO_cons,chgO_cons,List.length_append,List.length_append];omega
 |z::o,i+1,x,y,h=>by have:=chg_set_len (o:=o) (i:=i) (x:=x) (y:=y) (by simpa using h);rw[List.set_cons_succ,chgO_cons,chgO_cons,List.length_append,List.length_append];omega
theorem chg_get {x:Tx} {i:Nat} (h:o[i]? =some x):∀m∈x.list,m∈chgO o:=fun _ hm=>List.mem_flatMap.2 ⟨x,List.mem_of_getElem? h,hm⟩
theorem chg_erase (o:List Tx) (i:Nat):∀m,m∈chgO (o.eraseIdx i)→m∈chgO o:=fun m hm=>by
 obtain⟨x,hx,h⟩:=List.mem_flatMap.1 hm;exact List.mem_flatMap.2 ⟨x,List.mem_of_mem_eraseIdx hx,h⟩
theorem chg_erase_len:∀{o:List Tx} {i:Nat} {x:Tx},o[i]? =some x→(chgO (o.eraseIdx i)).length+x.list.length=(chgO o).length
 |[],i,x,h=>by simp at h
 |z::o,0,x,h=>by simp at h;subst h;rw[List.eraseIdx_cons_zero,chgO_cons,List.length_append];omega
 |z::o,i+1,x,h=>by have:=chg_erase_len (o:=o) (i:=i) (x:=x) (by simpa using h);rw[List.eraseIdx_cons_succ,chgO_cons,chgO_cons,List.length_append,List.length_append];omega
theorem ids_set {i:Nat} {x y:Tx} (h:(o.map (·.id)).Nodup) (hx:o[i]? =some x) (e:y.id=x.id):((o.set i y).map (·.id)).Nodup:=by
 rw[List.map_set,e];have:(o.map (·.id)).set i x.id=o.map (·.id):=by
  have hx':(o.map (·.id))[i]? =some x.id:=(by rw[List.getElem?_map,hx];rfl);apply List.ext_getElem?;intro j;by_cases ej:i=j
  ·subst ej;rw[List.getElem?_set_self (List.getElem?_eq_some_iff.1 hx').1,hx']
  ·rw[List.getElem?_set_ne ej]
 rw[this];exact h
theorem ids_erase (h:(o.map (·.id)).Nodup) (i:Nat):((o.eraseIdx i).map (·.id)).Nodup:=by
 exact List.Nodup.sublist (List.Sublist.map _ (List.eraseIdx_sublist o i)) h
theorem Fit.mono {k:Nat} (h:Fit n s) (hk:n≤k):Fit k s:=⟨h.base,h.chg,h.ids,by have:=h.size;omega,by have:=h.opn;omega,h.tab,h.snd⟩
theorem Fit.view (h:Fit n s):WfUL s.view:=layL_wf h.base h.chg
theorem Fit.view_len (h:Fit n s):s.view.length≤n:=by
 have h1:=layL_len (chgO s.opn) s.base;have h2:=h.size;show(layL s.base (chgO s.opn)).length≤n;omega
theorem Fit.view_tab (h:Fit n s):tabU s.view=true:=layL_tab h.tab
theorem Fit.opened (h:Fit n s) (t:Int):Fit (n+1) { s with opn:=opnO s.opn t}:=by
 refine⟨h.base,?_,opn_ids h.ids t,?_,?_,h.tab,?_⟩
 ·show WfMUL (chgO (opnO s.opn t));rw[chg_opn];exact h.chg
 ·show s.base.length+(chgO (opnO s.opn t)).length≤n+1;rw[chg_opn];have:=h.size;omega
 ·have:=opn_len s.opn t;have:=h.opn;show(opnO s.opn t).length≤n+1;omega
 ·show ∀m∈chgO (opnO s.opn t),sndM m=true;rw[chg_opn];exact h.snd
theorem Fit.failed (h:Fit n s) (b:Bool):Fit n { s with fail:=b}:=⟨h.base,h.chg,h.ids,h.size,h.opn,h.tab,h.snd⟩
theorem Fit.set (h:Fit n s) {i:Nat} {x y:Tx} (hx:s.opn[i]? =some x) (e:y.id=x.id) {k:Nat} (hl:y.list.length≤x.list.length+k) (hw:WfMUL y.list) (hs:∀m∈y.list,sndM m=true):Fit (n+k) { s with opn:=s.opn.set i y}:=by
 refine⟨h.base,fun m hm=>?_,ids_set h.ids hx e,?_,?_,h.tab,fun m hm=>?_⟩
 ·rcases chg_set_mem hx m hm with q|q
  ·exact h.chg m q
  ·exact hw m q
 ·have:=chg_set_len (y:=y) hx;have:=h.size;show s.base.length+(chgO (s.opn.set i y)).length≤n+k;omega
 ·have:=h.opn;show(s.opn.set i y).length≤n+k;rw[List.length_set];omega
 ·rcases chg_set_mem hx m hm with q|q
  ·exact h.snd m q
  ·exact hs m q
theorem Fit.change (h:Fit n s) {m:Mu} (hm:WfM m) (hs:sndM m=true) (t:Int):Fit (n+2) (chgS s t m):=by
 have h1:=h.opened t;unfold chgS;split
 ·exact h1.mono (by omega)
 ·have hx:=opnO_at s.opn t;have hw:WfMUL (txO (opnO s.opn t) (plO s.opn t)).list:=fun k hk=>h1.chg k (chg_get hx k hk);have hsx:∀k∈(txO (opnO s.opn t) (plO s.opn t)).list,sndM k=true:=fun k hk=>h1.snd k (chg_get hx k hk);refine Fit.failed (s:={ s with opn:=(opnO s.opn t).set (plO s.opn t) (if chgE s t m=0 then(txO (opnO s.opn t) (plO s.opn t)).push m else(txO (opnO s.opn t) (plO s.opn t)).no)}) ?_ false;refine Fit.set (s:={ s with opn:=opnO s.opn t}) (k:=1) h1 hx ?_ ?_ ?_ ?_
  ·split<;>rfl
  ·split
   ·simp[Tx.push]
   ·simp[Tx.no]
  ·split
   ·intro k hk;rcases List.mem_append.1 (show k∈_++[m] from hk) with q|q
    ·exact hw k q
    ·simp at q;subst q;exact hm
   ·exact hw
  ·split
   ·intro k hk;rcases List.mem_append.1 (show k∈_++[m] from hk) with q|q
    ·exact hsx k q
    ·simp at q;subst q;exact hs
   ·exact hsx
theorem endB_mem (s:Un) (t:Int):∀m∈endB s t,m∈chgO s.opn:=by
 unfold endB;split
 ·rename_i h;obtain⟨x,hx,_⟩:=plO_lt rfl h;intro m hm;unfold txO at hm;rw[hx] at hm;exact chg_get hx m hm
 ·intro m hm;cases hm
theorem end_len (s:Un) (t:Int):(endB s t).length+(chgO (endO s t)).length=(chgO s.opn).length:=by
 unfold endB endO;split
 ·rename_i h;obtain⟨x,hx,_⟩:=plO_lt rfl h;have:=chg_erase_len hx;unfold txO;rw[hx];show x.list.length+_=_;omega
 ·rename_i h;rw[List.eraseIdx_of_length_le (by omega)];simp
theorem Fit.undone (h:Fit n s) (t:Int):Fit n { s with opn:=endO s t}:=by
 have h2:=end_len s t;refine⟨h.base,fun m hm=>h.chg m (chg_erase _ _ m hm),ids_erase h.ids _,?_,?_,h.tab,fun m hm=>h.snd m (chg_erase _ _ m hm)⟩
 ·have:=h.size;show s.base.length+(chgO (endO s t)).length≤n;omega
 ·have:=h.opn;have h3:=List.length_eraseIdx_le s.opn (plO s.opn t);show(s.opn.eraseIdx _).length≤n;omega
theorem Fit.committed (h:Fit n s) (t:Int):Fit n { s with base:=layL s.base (endB s t),opn:=endO s t}:=by
 have h1:=h.undone t;have h2:=end_len s t;have h3:=layL_len (endB s t) s.base;refine⟨layL_wf h.base fun m hm=>h.chg m (endB_mem s t m hm),h1.chg,h1.ids,?_,h1.opn,layL_tab h.tab,h1.snd⟩;have:=h.size;show(layL s.base (endB s t)).length+(chgO (endO s t)).length≤n;omega
theorem Fit.take (h:Fit n s) {m:Ms} (hm:WfMs m):Fit (n+2) (takeS s m):=by
 unfold takeS;split
 ·exact h.mono (by omega)
 rename_i hs;split
 ·rename_i hk;have hsm:sndM m.mod=true:=(by have hs':sndMs m=true:=(by simpa using hs);unfold sndMs at hs';rw[if_pos hk] at hs';simp only[Bool.and_eq_true] at hs';exact hs'.2.1);exact h.change hm.mod hsm m.txn
 split
 ·exact(h.committed m.txn).mono (by omega)
 split
 ·exact(h.undone m.txn).mono (by omega)
 ·exact h.mono (by omega)
theorem hit_len (i:Int) (us:List Ru):(hitL i us).length=us.length:=by
 unfold hitL;split
 ·rw[List.length_modify]
 ·rfl
end
section
variable {us : List Ru} {m n : Mu} {u z : Ru}
end
def endM (k t : Int) : Ms := ⟨k, t, 0, zMu, 0, zHd, []⟩
def okT (t : Int) : Prop := 0 ≤ t ∧ t ≤ 4294967295
theorem zEqs:mEq zMu zMu=true∧hEq zHd zHd=true:=⟨by kernel_rfl,by kernel_rfl⟩
theorem snd_endM {k t:Int} (ht:okT t) (hk:2≤k∧k≤5):sndMs (endM k t)=true:=by
 unfold sndMs endM plainB;have h1:¬k=1:=(by omega);have h6:¬k=6:=(by omega);have h8:¬k=8:=(by omega);have h9:¬k=9:=(by omega);have h10:¬k=10:=(by omega);have h7:k≤7:=(by omega);simp[ht.1,ht.2,h1,h6,h8,h9,h10,hk.1,h7,show hEq zHd zHd=true from zEqs.2,show mEq zMu zMu=true from zEqs.1]
end Go.Proofs.YtomnpfbebimpkaaGreatDoor
