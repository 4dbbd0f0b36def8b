/- Several of my texts as one: UniSend, UniStt, UniArg, UniTwin. -/
import Derived.Test.YtomnpfbebimpkaaGreatDoorPackUniP
import Derived.Test.YtomnpfbebimpkaaGreatDoorPackUniM
import Derived.Test.YtomnpfbebimpkaaGreatDoorModArg
import Derived.Test.YtomnpfbebimpkaaGreatDoorUndChg
import Derived.Test.YtomnpfbebimpkaaGreatDoorSq
import Derived.Test.YtomnpfbebimpkaaGreatDoorCodArg
/-
  Changes sent to a unit in a transaction.
-/
namespace Go.Proofs.YtomnpfbebimpkaaGreatDoor
set_option maxRecDepth 20000
open Go.RowKit
def endG (k t : Int) : Gm := ⟨k, t, 0, zMm, 0, zHd, none, 0, 0, []⟩
theorem builtEnd (k t:Int):Tryz.prog.built 42 [(0,.int .i64 k),(1,.int .i64 t)]=some (gca (endG k t)):=by kernel_rfl
theorem wfEnd (k t:Int):WfMs (endG k t).u:=⟨wfZ0,wfHd0,fun u hu=>(by cases hu)⟩
theorem inEnd (k t:Int) (W:World):InG (endG k t) W:=⟨zM_in _,rlies_nil _⟩
theorem stEnd (B:Nat) (k t:Int) (W:World):StM B (endG k t).mod W:= .inr (zM_own 0 _)
theorem UFr.old' {B b:Nat} {x x':Um} {W W' w:World} (h:UFr x x' W W') (hU:UniA B x W) (hbB:b≤B) (hb:Below b w W):Below b w W':=h.fr.below (fun g hg=>Nat.le_trans hbB (hU.from g hg)) (by have:=hU.lt;have:=hU.ge;omega) hb
structure CellsMm (W : World) (b o : Nat) (m : Mm) : Prop where
  mm : W.rangeAt b (o + 1) (cl m.u.m)
  sl : W.cell? ⟨b, o + 26, none⟩ = some (.slice m.q m.n m.c)
theorem tab_keys {us vs:List Ru} (h:tabU us=true) (e:vs.map kyR=us.map kyR) (hs:∀u∈vs,sndR u=true):tabU vs=true:=by
 refine(tabU_iff vs).2 ⟨hs,?_⟩;have h1:(us.map kyR).Pairwise fun a b=>rOrd a b<0:=List.pairwise_map.2 ((tabU_iff us).1 h).2;rw[←e] at h1;exact List.pairwise_map.1 h1
theorem tab_sub {us vs:List Ru} (h:tabU us=true) (hs:List.Sublist vs us):tabU vs=true:=(tabU_iff vs).2 ⟨fun u hu=>((tabU_iff us).1 h).1 u (hs.subset hu),List.Pairwise.sublist hs ((tabU_iff us).1 h).2⟩
theorem more_pos {a n:Int} (ha:0≤a) (hn:0≤n):0≤moreI a n:=by
 unfold moreI;split<;>(try split)<;>omega
theorem snd_tick {u:Ru} {n:Int} (hn:0≤n) (h:sndR u=true):sndR (tickU n u)=true:=by
 unfold sndR at*;simp only[Bool.and_eq_true,decide_eq_true_eq] at h ⊢;obtain⟨h1,h2,h3,h4,h5,h6,h7,h8,h9⟩:=h;exact⟨h1,h2,h3,h4,h5,h6,h7,more_pos h8 hn,more_pos h9 hn⟩
theorem snd_hit {u:Ru} (h:sndR u=true):sndR (hitU u)=true:=by
 unfold sndR at*;simp only[Bool.and_eq_true,decide_eq_true_eq] at h ⊢;obtain⟨h1,h2,h3,h4,h5,h6,h7,h8,h9⟩:=h;exact⟨h1,h2,h3,h4,h5,h6,more_pos h7 (by decide),Int.le_refl 0,h9⟩
theorem tab_left {us:List Ru} {n:Int} (hn:0≤n) (h:tabU us=true):tabU (leftL n us)=true:=by
 refine tab_sub (tab_keys (vs:=us.map (tickU n)) h ?_ fun u hu=>?_) List.filter_sublist
 ·rw[List.map_map];rfl
 ·obtain⟨x,hx,rfl⟩:=List.mem_map.1 hu;exact snd_tick hn (((tabU_iff us).1 h).1 x hx)
theorem map_modify_ky:∀(us:List Ru) (i:Nat),(us.modify i hitU).map kyR=us.map kyR
 |[],i=>by cases i<;>rfl
 |u::us,0=>by rw[List.modify_zero_cons];rfl
 |u::us,i+1=>by rw[List.modify_succ_cons,List.map_cons,List.map_cons,map_modify_ky us i]
theorem mem_modify_hit:∀(us:List Ru) (i:Nat),∀u∈us.modify i hitU,u∈us∨∃x∈us,u=hitU x
 |[],i,u,h=>by cases i<;>cases h
 |x::us,0,u,h=>by
  rw[List.modify_zero_cons] at h;rcases List.mem_cons.1 h with rfl|h
  ·exact .inr ⟨x,by simp,rfl⟩
  ·exact .inl (by simp[h])
 |x::us,i+1,u,h=>by
  rw[List.modify_succ_cons] at h;rcases List.mem_cons.1 h with rfl|h
  ·exact .inl (by simp)
  ·rcases mem_modify_hit us i u h with h|⟨y,hy,e⟩
   ·exact .inl (by simp[h])
   ·exact .inr ⟨y,by simp[hy],e⟩
theorem tab_hit {us:List Ru} (i:Int) (h:tabU us=true):tabU (hitL i us)=true:=by
 unfold hitL;split
 ·refine tab_keys h (map_modify_ky us _) fun u hu=>?_;rcases mem_modify_hit us _ u hu with hu|⟨x,hx,rfl⟩
  ·exact((tabU_iff us).1 h).1 u hu
  ·exact snd_hit (((tabU_iff us).1 h).1 x hx)
 ·exact h
section
variable {s : Un} {n : Nat}
theorem Fit.tick (h:Fit n s) (m:Int):Fit n (tickS s m):=⟨wf_left h.base (clamp_range m).1 (clamp_range m).2,h.chg,h.ids,by have:=h.size;have:=left_gone_len (clampN m) s.base;show(leftL (clampN m) s.base).length+(chgO s.opn).length≤n;omega,h.opn,tab_left (clamp_range m).1 h.tab,h.snd⟩
theorem Fit.pkt (h:Fit n s) (port:Int) (hd:Nat→Int):Fit n (pktS s port hd):=by
 unfold pktS;split
 ·exact h
 ·split
  ·rename_i i _;exact⟨wf_hit h.base (i:Int),h.chg,h.ids,Nat.le_trans (Nat.le_of_eq (congrArg (· +(chgO s.opn).length) (hit_len (i:Int) s.base))) h.size,h.opn,tab_hit (i:Int) h.tab,h.snd⟩
  ·exact h
end
structure Stt (w0 : World) (B : Nat) (y : Um) (s : Un) (n : Nat) (W : World) : Prop where
  un : y.un = s
  fit : FitM n y
  uni : UniA B y W
  bel : Below w0.heap.size w0 W
  tab : Tab W
  p : y.p = B
  ge : w0.heap.size ≤ B
  hz : 0 < w0.heap.size
section
variable {w0 W W' : World} {B : Nat} {y y' : Um} {s : Un} {n : Nat}
theorem Stt.hzB (h:Stt w0 B y s n W):0<B:=Nat.lt_of_lt_of_le h.hz h.ge
theorem Stt.lt (h:Stt w0 B y s n W):B<W.heap.size:=by have:=h.uni.lt;have:=h.p;omega
theorem Stt.hzW (h:Stt w0 B y s n W):0<W.heap.size:=by have:=h.hzB;have:=h.lt;omega
theorem Stt.below (h:Stt w0 B y s n W) (hb:Below W.heap.size W W'):Stt w0 B y s n W':=⟨h.un,h.fit,h.uni.below hb,h.bel.trans (hb.mono h.bel.size),h.tab.below h.hzW hb,h.p,h.ge,h.hz⟩
theorem Stt.next (h:Stt w0 B y s n W) {s':Un} {m:Nat} (hu:y'.un=s') (hf:Fit m s') (hm:m≤9000) (hU:UniA B y' W') (hp:y'.p=y.p) (k:UFr y y' W W'):Stt w0 B y' s' m W':=⟨hu,⟨by rw[hu];exact hf,hm⟩,hU,k.old' h.uni h.ge h.bel,(k.env h.uni h.tab h.hzB).1,hp.trans h.p,h.ge,h.hz⟩
theorem st_new (room r:Int) (hr:clampR room=r) (w0 w:World) (hb:Below w0.heap.size w0 w) (ht:Tab w) (hz:0<w0.heap.size):Calls Tryz.prog 10 #[.int .i64 room] w fun e w'=>e= .returned (.pointer (some ⟨w.heap.size,0,none⟩))∧Stt w0 w.heap.size (nilUm w.heap.size r) ⟨r,[],[],false⟩ 0 w'∧Below w.heap.size w w':=by
 subst hr;refine(un_new room w).mono ?_;rintro e w' ⟨rfl,hu,hbw⟩;exact⟨rfl,⟨rfl,⟨⟨fun u hu=>(by cases hu),fun u hu=>(by cases hu),List.nodup_nil,Nat.le_refl _,Nat.le_refl _,rfl,fun u hu=>(by cases hu)⟩,by decide⟩,hu,hb.trans (hbw.mono hb.size),ht.below (by have:=hb.size;omega) hbw,rfl,hb.size,hz⟩,hbw⟩
theorem Stt.stM (h:Stt w0 B y s n W) {m:Mm} (hi:InM m w0):StM B m W:= .inl ⟨w0,h.ge,h.bel,hi⟩
theorem st_take (h:Stt w0 B y s n W) (g:Gm) (hw:WfMs g.u) (hi:InG g W) (hs:StM B g.mod W) (hn:n+2≤9000):Calls Tryz.prog 19 #[.pointer (some ⟨B,0,none⟩),.agg (gca g)] W fun e w'=>∃(y':Um) (v:Value) (gs:List Gm),e= .returned v∧gs.map (·.u)=takeA s g.u∧AnsL W.heap.size v gs w'∧Stt w0 B y' (takeS s g.u) (n+2) w'∧UFr y y' W w':=by
 have hk:=un_take y B n h.fit (by omega) g hw W h.uni hi hs h.tab h.hzB;rw[h.p] at hk;refine hk.mono ?_;rintro e w' ⟨y',v,gs,rfl,hg,ha,hun,hu,hp,hf⟩;rw[h.un] at hg hun;exact⟨y',v,gs,rfl,hg,ha,h.next hun (by rw[←h.un];exact h.fit.fit.take hw) hn hu hp hf,hf⟩
theorem st_end (h:Stt w0 B y s n W) (k t:Int) (hn:n+2≤9000):Calls Tryz.prog 19 #[.pointer (some ⟨B,0,none⟩),.agg (gca (endG k t))] W fun e w'=>∃(y':Um) (v:Value) (gs:List Gm),e= .returned v∧gs.map (·.u)=takeA s (endM k t)∧AnsL W.heap.size v gs w'∧Stt w0 B y' (takeS s (endM k t)) (n+2) w'∧UFr y y' W w':=st_take h (endG k t) (wfEnd k t) (inEnd k t W) (stEnd B k t W) hn
theorem st_base (h:Stt w0 B y s n W):Calls Tryz.prog 15 #[.pointer (some ⟨B,0,none⟩)] W (LayRet W.heap.size W s.base):=by
 have:=un_base y B n h.fit W h.uni;rwa [h.p,h.un] at this
theorem st_view (h:Stt w0 B y s n W):Calls Tryz.prog 16 #[.pointer (some ⟨B,0,none⟩)] W (LayRet W.heap.size W s.view):=by
 have:=un_View y B n h.fit W h.uni h.tab h.hzW;rwa [h.p,h.un] at this
theorem st_packet (h:Stt w0 B y s n W) (port:Int) (hd:Nat→Int) (hh:Wf hd):Calls Tryz.prog 20 #[.pointer (some ⟨B,0,none⟩),.int .i64 port,.agg (hc hd)] W fun e w'=>∃(y':Um) (vs va:Value) (gs:List Gm),e= .returned (.tuple #[vs,va,.agg (hpa (pktH s port hd))])∧KOwns KS W.heap.size vs (pktL s port hd) w'∧gs.map (·.u)=pktA s port hd∧AnsL W.heap.size va gs w'∧Stt w0 B y' (pktS s port hd) n w'∧UFr y y' W w':=by
 have hs:=un_pkt y B n h.fit port hd hh W h.uni h.tab h.hzB;rw[h.p] at hs;refine hs.mono ?_;rintro e w' ⟨y',vs,va,gs,rfl,hk,hg,ha,hun,hu,hp,hf⟩;rw[h.un] at hk hg hun ⊢;exact⟨y',vs,va,gs,rfl,hk,hg,ha,h.next hun (by rw[←h.un];exact h.fit.fit.pkt port hd) h.fit.n hu hp hf,hf⟩
theorem st_tick (h:Stt w0 B y s n W) (m:Int):Calls Tryz.prog 21 #[.pointer (some ⟨B,0,none⟩),.int .i64 m] W fun e w'=>∃(y':Um) (v:Value) (gs:List Gm),e= .returned v∧gs.map (·.u)=tickA s m∧AnsL W.heap.size v gs w'∧Stt w0 B y' (tickS s m) n w'∧UFr y y' W w':=by
 have hs:=un_tick y B n h.fit m W h.uni;rw[h.p] at hs;refine hs.mono ?_;rintro e w' ⟨y',v,gs,rfl,hg,ha,hun,hu,hp,hf⟩;rw[h.un] at hg hun;exact⟨y',v,gs,rfl,hg,ha,h.next hun (by rw[←h.un];exact h.fit.fit.tick m) h.fit.n hu hp hf,hf⟩
theorem st_fail (h:Stt w0 B y s n W):Calls Tryz.prog 23 #[.pointer (some ⟨B,0,none⟩)] W fun e w'=>e= .returned (.tuple #[])∧∃y',Stt w0 B y' (failS s) n w'∧UFr y y' W w':=by
 have hs:=un_fail y B W h.uni;rw[h.p] at hs;refine hs.mono ?_;rintro e w' ⟨rfl,hu,hf⟩;have e1:(⟨B,y.room,y.vb,y.L,y.vo,y.ts,true⟩:Um)=⟨y.p,y.room,y.vb,y.L,y.vo,y.ts,true⟩:=(by rw[h.p]);rw[e1] at hu hf;exact⟨rfl,_,h.next (s':=failS s) (by rw[←h.un];rfl) (by rw[←h.un];exact h.fit.fit.failed true) h.fit.n hu rfl hf,hf⟩
theorem st_open (h:Stt w0 B y s n W):Calls Tryz.prog 18 #[.pointer (some ⟨B,0,none⟩)] W fun e w'=>∃v,e= .returned v∧KOwns KJ W.heap.size v (ascL (s.opn.map (·.id))) w'∧Below W.heap.size W w':=by
 have h1:y.ts.map (·.tx)=s.opn:=congrArg Un.opn h.un;have h2:y.ts.map (·.id)=s.opn.map (·.id):=(by rw[←h1,List.map_map];rfl);have hl:y.ts.length≤9000:=(by have q1:=h.fit.fit.opn;have q2:=congrArg List.length h1;rw[List.length_map] at q2;rw[h.un] at q1;have:=h.fit.n;omega);have:=un_open y B hl W h.uni;rwa [h.p,h2] at this
end
open Go.ChangeShapes Go.WideShapes Go.ChangeAt Go.RowKit
structure Xm where
  what : Int
  n : Int
  g : Gm
  h : Nat → Int
def xcl (x : Xm) : List Value := [.int .i64 x.what, .int .i64 x.n] ++ (gcl x.g ++ hl x.h)
def xca (x : Xm) : Array Value := (xcl x).toArray
theorem gcl_len (g:Gm):(gcl g).length=48:=by simp[gcl,ghd,gtl,mcl,mtl,cl,hl]
abbrev KE : Kd Xm := ⟨44, 22, 62, 528, xcl⟩
theorem hl_one (h:Nat→Int):∀u∈hl h,u.oneCell'=true:=fun u hu=>by
 simp only[hl,List.mem_cons,List.not_mem_nil,or_false] at hu;rcases hu with rfl|rfl|rfl|rfl|rfl|rfl|rfl|rfl|rfl|rfl|rfl|rfl<;>rfl
theorem okE:KE.Ok where
 pos:=by decide
 len:=fun _=>rfl
 one:=fun a u hu=>by
  rcases List.mem_append.1 (show u∈[Value.int .i64 a.what,.int .i64 a.n]++(gcl a.g++hl a.h) from hu) with h|h
  ·simp only[List.mem_cons,List.not_mem_nil,or_false] at h;rcases h with rfl|rfl<;>rfl
  rcases List.mem_append.1 h with h|h
  ·exact okG.one a.g u h
  ·exact hl_one a.h u h
 under:=Tryz.underlying22
 info:=infoOf (by kernel_rfl) (by kernel_rfl) (by kernel_rfl)
 small:=by decide
 room1:=by decide
theorem infoX:(Tryz.prog.info? 44).map (·.size)=some 62:=by kernel_rfl
theorem cActX:Tryz.prog.cellsOf 44=62:=by kernel_rfl
theorem xactFields:∃f0 f1 f2 f3:Field,Tryz.prog.underlying 44=some (.struct #[f0,f1,f2,f3])∧(f0.type=3∧f0.offset=0)∧(f1.type=3∧f1.offset=1)∧(f2.type=42∧f2.offset=2)∧(f3.type=35∧f3.offset=50):=⟨_,_,_,_,Tryz.underlying44,⟨rfl,rfl⟩,⟨rfl,rfl⟩,⟨rfl,rfl⟩,⟨rfl,rfl⟩⟩
structure WfX (x : Xm) : Prop where
  what : I64 x.what
  n : I64 x.n
  g : WfG x.g
  h : Wf x.h
def XLies (v : Value) (l : List Xm) (W : World) : Prop := KLies KE v l W ∧ ∀ x ∈ l, InG x.g W
structure CellsX (W : World) (b o : Nat) (x : Xm) : Prop where
  what : W.cell? ⟨b, o, none⟩ = some (.int .i64 x.what)
  n : W.cell? ⟨b, o + 1, none⟩ = some (.int .i64 x.n)
  g : W.rangeAt b (o + 2) (gcl x.g)
  h : W.rangeAt b (o + 50) (hl x.h)
theorem xcl_g (x:Xm) {j:Nat} {v:Value} (h:(gcl x.g)[j]? =some v):(xcl x)[2+j]? =some v:=by
 unfold xcl;rw[List.getElem?_append_right (by show 2≤2+j;omega)];show(gcl x.g++hl x.h)[2+j - 2]? =some v;rw[show 2+j - 2=j by omega,List.getElem?_append_left (List.getElem?_eq_some_iff.1 h).1];exact h
theorem xcl_h (x:Xm) {j:Nat} {v:Value} (h:(hl x.h)[j]? =some v):(xcl x)[50+j]? =some v:=by
 unfold xcl;rw[List.getElem?_append_right (by show 2≤50+j;omega)];show(gcl x.g++hl x.h)[50+j - 2]? =some v;rw[List.getElem?_append_right (by rw[gcl_len];omega),gcl_len,show 50+j - 2 - 48=j by omega];exact h
theorem cellsX_mid {W:World} {b o:Nat} {x:Xm} (h:W.rangeAt b o (xcl x)):CellsX W b o x where
 what:=h 0 _ rfl
 n:=h 1 _ rfl
 g:=fun j v hv=>by have:=h (2+j) v (xcl_g x hv);rwa [←Nat.add_assoc] at this
 h:=fun j v hv=>by have:=h (50+j) v (xcl_h x hv);rwa [←Nat.add_assoc] at this
theorem Blk.rangeX {W:World} {b:Nat} {x:Xm} {t:TypeId} (h:Blk b (xca x) t W):W.rangeAt b 0 (xcl x):=fun j v hv=>by
 rw[Nat.zero_add,cell_of_row W b j _ _ _ h];unfold xca;simpa using hv
section
variable {H : Type} {enc : TypeId × Value → H} {W : World} {base : Nat} {sp : Nat → Bool} {held : Bool}
theorem trod_xact (fuel:Nat) (cs:List Value) (x:DataW H×List MemPlace) (h:DataW.trod enc Tryz.prog W base sp held fuel 44 cs=some x) (hwt:∀n∈x.1.weights Tryz.prog 44,n≤reachBytes):∃y:Xm,cs=xcl y∧(WfX y∧InG y.g W):=by
 obtain⟨f0,f1,f2,f3,hu,⟨t0,o0⟩,⟨t1,o1⟩,⟨t2,o2⟩,⟨t3,o3⟩⟩:=xactFields;obtain⟨xs,n,_,rfl,hlc,hlen,hf⟩:=DataW.trod_struct hu h;have hcs:cs.length=62:=(by rw[hlc,cActX]);have cI:Tryz.prog.cellsOf 3=1:=(by kernel_rfl);match xs,hlen with
 |[y0,y1,y2,y3],_=>have h0:=hf 0 f0 rfl;have h1:=hf 1 f1 rfl;have h2:=hf 2 f2 rfl;have h3:=hf 3 f3 rfl;rw[t0,o0,cI] at h0;rw[t1,o1,cI] at h1;rw[t2,o2,cMsg] at h2;rw[t3,o3,cHead] at h3;have hw2:∀n∈y2.1.weights Tryz.prog 42,n≤reachBytes:=fun k hk=>(by refine hwt k ?_;simp only[DataW.weights,hu];exact DataW.weights_mem_each (j:=2) (t:=42) (d:=y2.1) (by simp[t2]) (by simp) k hk);obtain⟨wt,e0,_,w0⟩:=DataW.trod_int Tryz.underlying3 h0;obtain⟨nn,e1,_,w1⟩:=DataW.trod_int Tryz.underlying3 h1;obtain⟨g,e2,wg,ig⟩:=trod_msg _ _ _ h2 hw2;obtain⟨hd,e3,_,wh⟩:=trod_head h3;rw[hl_hc] at e3;refine⟨⟨wt,nn,g,hd⟩,?_,⟨i64_of w0,i64_of w1,wg,wf_of wh⟩,ig⟩;show cs=[.int .i64 wt,.int .i64 nn]++(gcl g++hl hd);have s0:=drop_cons _ _ _ e0;rw[List.drop_zero] at s0;have s2:cs.drop 2=gcl g++cs.drop 50:=(by rw[←List.take_append_drop 48 (cs.drop 2),e2,List.drop_drop]);have s5:cs.drop 50=hl hd:=(by rw[←e3,List.take_of_length_le (by rw[List.length_drop];omega)]);rw[s0,drop_cons _ _ _ e1,s2,s5];rfl
theorem open_xacts {v:Value} {d:DataW H} {p:List MemPlace} {b:Nat} (hwt:∀n∈d.weights Tryz.prog 22,n≤reachBytes) (hv:Value.okWide Tryz.prog W .any b 22 v) (h:DataW.Trod enc Tryz.prog W base sp held 22 v d p):∃l:List Xm,XLies v l W∧(∀x∈l,WfX x)∧l.length≤140737488355328:=by
 obtain⟨fuel,hf⟩:=h;obtain⟨q,n,c,l,h0,hl,hw,hb⟩:=trod_kind KE okE (fun x=>WfX x∧InG x.g W) cActX trod_xact hf hwt;have one:∀x:Value,v.cells.toList=[x]→v=x:=by
  intro x hx;simp only[Value.okWide,Tryz.underlying22,Cell.okWide] at hv;cases v with
  |agg cs=>simp[Cell.ok,Tryz.underlying22] at hv
  |_=>simpa [Value.cells] using hx
 have e:=one _ h0;subst e;have hr:=reach_le;have hbr:Tryz.prog.bytesOf KE.T=528:=(by kernel_rfl);rw[hbr] at hb;exact⟨l,⟨hl,fun x hx=>(hw x hx).2⟩,fun x hx=>(hw x hx).1,by omega⟩
end
theorem readXacts:Tryz.prog.readableRec 22=true:=by kernel_rfl
theorem rowXacts:22<Tryz.prog.types.size:=of_decide_eq_true (by kernel_rfl)
theorem Stt.mono {w0 W:World} {B n m:Nat} {y:Um} {s:Un} (h:Stt w0 B y s n W) (hn:n≤m) (hm:m≤9000):Stt w0 B y s m W:=⟨h.un,⟨h.fit.fit.mono hn,hm⟩,h.uni,h.bel,h.tab,h.p,h.ge,h.hz⟩
structure TwoU (w0 : World) (A : Nat) (x : Um) (s : Un) (B : Nat) (y : Um) (t : Un) (n : Nat) (W : World) : Prop where
  a : Stt w0 A x s n W
  b : Stt w0 B y t n W
  d : ∀ g ∈ x.muts, g ∉ y.muts
section
variable {w0 W W' : World} {A B n m : Nat} {x x' y y' : Um} {s s' t t' : Un}
end
def lightB (x : Xm) : Bool := decide (x.g.n ≤ 40) && decide (x.g.mod.n ≤ 40)
set_option maxHeartbeats 2000000 in
set_option maxRecDepth 100000 in
theorem light_any (x:Xm) (w:World):Calls Tryz.prog 12 #[.agg (xca x)] w fun e w'=>e= .returned (.bool (lightB x))∧Below w.heap.size w w':=by
 have R0:=qH (Blk.new w (xca x) 44);have HB:=qH (below1 w (.cells (xca x) 44));(go_enter Tryz.func12,Tryz.ntmps12);(go_upto_region 1 with fail);have c1:(w.alloc (.cells (xca x) 44)).cell? ⟨w.heap.size,49,none⟩=some (.slice x.g.q x.g.n x.g.c):=(cell_of_row _ w.heap.size 49 _ _ _ R0.out).trans rfl;have c2:(w.alloc (.cells (xca x) 44)).cell? ⟨w.heap.size,31,none⟩=some (.slice x.g.mod.q x.g.mod.n x.g.mod.c):=(cell_of_row _ w.heap.size 31 _ _ _ R0.out).trans rfl;generalize w.alloc (.cells (xca x) 44)=W at*;clear R0;by_cases h1:x.g.n≤40
 ·have h1I:(x.g.n:Int)≤40:=(by omega);by_cases h2:x.g.mod.n≤40
  ·have h2I:(x.g.mod.n:Int)≤40:=(by omega);(go_wp2_with fail);go_ret;exact⟨by unfold lightB;simp[h1,h2],HB.out⟩
  ·have h2I:¬(x.g.mod.n:Int)≤40:=(by omega);(go_wp2_with fail);go_ret;exact⟨by unfold lightB;simp[h1,h2],HB.out⟩
 ·have h1I:¬(x.g.n:Int)≤40:=(by omega);(go_wp2_with fail);go_ret;exact⟨by unfold lightB;simp[h1],HB.out⟩
end Go.Proofs.YtomnpfbebimpkaaGreatDoor
