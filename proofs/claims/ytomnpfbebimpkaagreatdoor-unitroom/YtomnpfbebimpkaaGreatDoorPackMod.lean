/- Several of my texts as one: ModMath, ModVal, ModFun, ModTch. -/
import Derived.Test.YtomnpfbebimpkaaGreatDoorPackRuleB
import Derived.Test.YtomnpfbebimpkaaGreatDoorPackRef
import Derived.Test.YtomnpfbebimpkaaGreatDoorPackRule
import Derived.Test.YtomnpfbebimpkaaGreatDoorSq
/-
  What changes do to tables: no word of any program.
-/
namespace Go.Proofs.YtomnpfbebimpkaaGreatDoor
set_option maxRecDepth 20000
structure Mu where
  kind : Int
  m : Nat → Int
  p : Int
  acts : List Ac
  idle : Int
  hard : Int
  owner : Int
  chk : Bool
structure WfM (c : Mu) : Prop where
  m : Wf c.m
  a : WfAL c.acts
  room : c.acts.length * 32 ≤ 140737488355328
  nums : I64 c.kind ∧ I64 c.p ∧ I64 c.idle ∧ I64 c.hard ∧ I64 c.owner
def sndM (m : Mu) : Bool := (decide (1 ≤ m.kind) && decide (m.kind ≤ 5)) && (csnd m.m && (sndAL m.acts && (upB m.p 65535 && (upB m.owner 255 && (upB m.idle 1048576 && (upB m.hard 1048576 &&
  ((decide (m.kind = 1) || (decide (m.idle = 0) && (decide (m.hard = 0) && !m.chk))) && ((!(decide (m.kind = 2) || decide (m.kind = 3)) || decide (m.p = 0)) && (!(decide (m.kind = 3) || decide (m.kind = 5)) || decide (m.acts.length = 0))))))))))
def newU (m : Mu) : Ru := ⟨m.m, m.p, m.acts, m.idle, m.hard, m.owner, 0, 0, 0⟩
def tchB (m : Mu) (u : Ru) : Bool := (u.owner == m.owner) && (if m.kind = 2 ∨ m.kind = 3 then inB u.m m.m else if m.kind = 4 ∨ m.kind = 5 then cEq u.m m.m && (u.p == m.p) else false)
def modU (m : Mu) (u : Ru) : Ru := if tchB m u then { u with acts := m.acts } else u
def tabU (us : List Ru) : Bool := us.all sndR && decide (us.Pairwise fun a b => rOrd a b < 0)
theorem tabU_iff (us:List Ru):tabU us=true↔(∀u∈us,sndR u=true)∧Srt rOrd us:=by
 unfold tabU;rw[Bool.and_eq_true,List.all_eq_true,decide_eq_true_eq];rfl
def applyE (us : List Ru) (m : Mu) (room : Int) : Int :=
  if (tabU us && sndM m) = false then 2
  else if m.kind = 1 then
    (if us.any (fun u => keyB u (newU m) && (u.owner != m.owner)) then 7
    else if m.chk && us.any (fun u => !keyB u (newU m) && ovB u (newU m)) then 6
    else if !us.any (fun u => keyB u (newU m)) && decide (room ≤ (us.length : Int)) then 3 else 0)
  else 0
def applyL (us : List Ru) (m : Mu) : List Ru :=
  if m.kind = 1 then tblOf (us ++ [newU m]) else if m.kind = 2 ∨ m.kind = 4 then us.map (modU m) else us.filter fun u => !tchB m u
def applyV (us : List Ru) (m : Mu) (room : Int) : List Ru := if applyE us m room = 0 then applyL us m else []
section
variable {us : List Ru} {m n : Mu} {room : Int} {u z : Ru}
theorem snd_kind (h:sndM m=true):m.kind=1∨m.kind=2∨m.kind=3∨m.kind=4∨m.kind=5:=by
 unfold sndM at h;simp only[Bool.and_eq_true,decide_eq_true_eq] at h;omega
theorem snd_acts (h:sndM m=true):sndAL m.acts=true:=by
 unfold sndM at h;simp only[Bool.and_eq_true] at h;exact h.2.2.1
theorem snd_new (h:sndM m=true):sndR (newU m)=true:=by
 unfold sndM at h;simp only[Bool.and_eq_true] at h;obtain⟨_,h1,h2,h3,h4,h5,h6,_⟩:=h;unfold sndR newU;simp only[Bool.and_eq_true];exact⟨h1,h2,h3,h5,h6,h4,rfl,rfl,rfl⟩
theorem apply_ok (h:applyE us m room=0):tabU us=true∧sndM m=true:=by
 unfold applyE at h;split at h
 ·cases h
 ·rename_i e;simpa [Bool.and_eq_true] using e
theorem key_iff (a b:Ru):keyB a b=true↔rOrd a b=0:=by rw[key_ord];simp
theorem keyB_p (h:keyB u z=true):u.p=z.p∧cEq u.m z.m=true:=by
 unfold keyB at h;simpa using h
theorem add_ins (ht:tabU us=true) (hs:sndM m=true):tblOf (us++[newU m])=ins rOrd (newU m) us:=by
 obtain⟨h1,h2⟩:=(tabU_iff us).1 ht;unfold tblOf;rw[List.filter_append,List.filter_eq_self.2 h1,show[newU m].filter sndR=[newU m] by simp[snd_new hs],srtL_snoc,srtL_self h2]
theorem add_mem (ht:tabU us=true) (hs:sndM m=true):z∈tblOf (us++[newU m])↔z=newU m∨(z∈us∧keyB z (newU m)=false):=by
 rw[add_ins ht hs,ins_mem rOrd_ordd _ _ ((tabU_iff us).1 ht).2,←Bool.not_eq_true,key_iff]
theorem tch_snd (h:sndR u=true) (hs:sndM m=true):sndR (modU m u)=true:=by
 unfold modU;split
 ·unfold sndR at h ⊢;simp only[Bool.and_eq_true] at h ⊢;exact⟨h.1,snd_acts hs,h.2.2⟩
 ·exact h
theorem mod_m (m:Mu) (u:Ru):(modU m u).m=u.m∧(modU m u).p=u.p∧(modU m u).owner=u.owner:=by unfold modU;split<;>exact⟨rfl,rfl,rfl⟩
theorem ord_congr {a b c d:Ru} (h1:a.m=c.m) (h2:a.p=c.p) (h3:b.m=d.m) (h4:b.p=d.p):rOrd a b=rOrd c d:=by unfold rOrd;rw[h1,h2,h3,h4]
theorem mod_ord (m:Mu) (a b:Ru):rOrd (modU m a) (modU m b)=rOrd a b:=ord_congr (mod_m m a).1 (mod_m m a).2.1 (mod_m m b).1 (mod_m m b).2.1
theorem key_congr {a b c d:Ru} (h1:a.m=c.m) (h2:a.p=c.p) (h3:b.m=d.m) (h4:b.p=d.p):keyB a b=keyB c d:=by unfold keyB;rw[h1,h2,h3,h4]
theorem apply_tab (h:applyE us m room=0):tabU (applyL us m)=true:=by
 obtain⟨ht,hs⟩:=apply_ok h;obtain⟨h1,h2⟩:=(tabU_iff us).1 ht;rw[tabU_iff];unfold applyL;split
 ·refine⟨fun z hz=>?_,tblOf_srt _⟩;rcases(add_mem ht hs).1 hz with rfl|⟨hz,_⟩
  ·exact snd_new hs
  ·exact h1 z hz
 ·split
  ·refine⟨fun z hz=>?_,?_⟩
   ·obtain⟨u,hu,rfl⟩:=List.mem_map.1 hz;exact tch_snd (h1 u hu) hs
   ·unfold Srt at h2 ⊢;rw[List.pairwise_map];exact h2.imp fun{a b} hab=>by rw[mod_ord];exact hab
  ·exact⟨fun z hz=>h1 z (List.mem_filter.1 hz).1,List.Pairwise.filter _ h2⟩
theorem apply_len (us:List Ru) (m:Mu):(applyL us m).length≤us.length+1∧(m.kind≠1→(applyL us m).length≤us.length):=by
 unfold applyL;split
 ·rename_i hk;refine⟨?_,fun h=>absurd hk h⟩;have:=srtL_len (ord:=rOrd) ((us++[newU m]).filter sndR);have h2:=List.length_filter_le sndR (us++[newU m]);unfold tblOf;simp only[List.length_append,List.length_cons,List.length_nil] at h2;omega
 ·split
  ·simp
  ·have:=List.length_filter_le (fun u=>!tchB m u) us;exact⟨by omega,fun _=>this⟩
theorem wf_new (h:WfM m):WfR (newU m):=⟨h.m,h.a,h.room,h.nums.2.1,h.nums.2.2.1,h.nums.2.2.2.1,h.nums.2.2.2.2,⟨by show(-9223372036854775808:Int)≤0;decide,by show(0:Int)≤9223372036854775807;decide⟩,⟨by show(-9223372036854775808:Int)≤0;decide,by show(0:Int)≤9223372036854775807;decide⟩,⟨by show(-9223372036854775808:Int)≤0;decide,by show(0:Int)≤9223372036854775807;decide⟩⟩
theorem wf_mod (hu:WfR u) (h:WfM m):WfR (modU m u):=by
 unfold modU;split
 ·exact⟨hu.m,h.a,h.room,hu.nums⟩
 ·exact hu
theorem wf_apply (hu:WfUL us) (h:WfM m):WfUL (applyL us m):=fun z hz=>by
 unfold applyL at hz;split at hz
 ·have:=(List.mem_filter.1 (srtL_sub rOrd_ordd hz)).1;rcases List.mem_append.1 this with q|q
  ·exact hu z q
  ·simp only[List.mem_cons,List.not_mem_nil,or_false] at q;subst q;exact wf_new h
 ·split at hz
  ·obtain⟨v,hv,rfl⟩:=List.mem_map.1 hz;exact wf_mod (hu v hv) h
  ·exact hu z (List.mem_filter.1 hz).1
end
theorem tabB_tabU (l:List Rm):tabB l=tabU (l.map (·.u)):=by
 rw[Bool.eq_iff_iff,tabU_iff];constructor
 ·intro h;have ok:∀i,i<l.length→okAt l i:=fun i hi=>(okRB_iff l i).1 (List.all_eq_true.1 h i (by simpa using hi));refine⟨fun u hu=>?_,?_⟩
  ·obtain⟨x,hx,rfl⟩:=List.mem_map.1 hu;obtain⟨i,hi⟩:=List.mem_iff_getElem?.1 hx;exact(ok i (List.getElem?_eq_some_iff.1 hi).1 x hi).1
  ·have step:∀(d i:Nat) (hi:i+d+1<l.length),rOrd l[i].u l[i+d+1].u<0:=by
    intro d;induction d with
    |zero=>intro i hi;exact(ok (i+1) hi _ (List.getElem?_eq_getElem hi)).2 i _ rfl (List.getElem?_eq_getElem (by omega))
    |succ d ih=>intro i hi;have h1:=ih i (by omega);have h2:=(ok (i+(d+1)+1) hi _ (List.getElem?_eq_getElem hi)).2 (i+d+1) _ rfl (List.getElem?_eq_getElem (by omega));exact rOrd_ordd.lt_trans h1 h2
   unfold Srt;rw[List.pairwise_iff_getElem];intro i j hi hj hij;simp only[List.length_map] at hi hj;simp only[List.getElem_map];obtain⟨d,rfl⟩:∃d,j=i+d+1:=⟨j - i - 1,by omega⟩;exact step d i hj
 ·rintro⟨h1,h2⟩;exact tabB_srt h2 fun r hr=>h1 _ (List.mem_map_of_mem hr)
open Go.RowKit
structure Mm where
  u : Mu
  q : Option Addr
  n : Nat
  c : Nat
def mtl (m : Mm) : List Value := [.int .i64 m.u.p, .slice m.q m.n m.c, .int .i64 m.u.idle, .int .i64 m.u.hard, .int .i64 m.u.owner, .bool m.u.chk]
def mcl (m : Mm) : List Value := .int .i64 m.u.kind :: (cl m.u.m ++ mtl m)
def mca (m : Mm) : Array Value := (mcl m).toArray
def InM (m : Mm) (W : World) : Prop := KLies KA (.slice m.q m.n m.c) m.u.acts W
def newR (m : Mm) : Rm := ⟨newU m.u, m.q, m.n, m.c⟩
section
variable {W W' : World} {m : Mm} {b : Nat} {t : TypeId}
theorem mca_one (m:Mm):(mca m).all (·.oneCell')=true:=by
 rw[Array.all_eq_true'];intro x hx;have hx':x∈mcl m:=(by simpa [mca] using hx);rcases List.mem_cons.1 hx' with rfl|h
 ·rfl
 rcases List.mem_append.1 h with h|h
 ·simp only[cl,List.mem_map] at h;obtain⟨_,_,rfl⟩:=h;rfl
 ·simp only[mtl,List.mem_cons,List.not_mem_nil,or_false] at h;rcases h with rfl|rfl|rfl|rfl|rfl|rfl<;>rfl
theorem mca_size (m:Mm):(mca m).size=31:=by simp[mca,mcl,mtl,cl]
theorem InM.below (h:InM m W) (hb:Below W.heap.size W W'):InM m W':=KLies.below h okA hb
theorem InM.new (h:InM m W):InA (newR m) W:=h
theorem InM.len (h:InM m W):m.n=m.u.acts.length:=by
 obtain⟨p,c,e⟩:=KLies.form h;injection e
theorem i640:I64 0:=⟨by decide,by decide⟩
theorem WfM.new {u:Mu} (h:WfM u):WfR (newU u):=⟨h.m,h.a,h.room,h.nums.2.1,h.nums.2.2.1,h.nums.2.2.2.1,h.nums.2.2.2.2,i640,i640,i640⟩
theorem mcl_mid (m:Mm) {j:Nat} {x:Value} (h:(cl m.u.m)[j]? =some x):(mcl m)[1+j]? =some x:=by
 unfold mcl;rw[Nat.add_comm,List.getElem?_cons_succ,List.getElem?_append_left (List.getElem?_eq_some_iff.1 h).1];exact h
theorem mcl_ge (m:Mm) (j:Nat):(mcl m)[25+j]? =(mtl m)[j]?:=by
 unfold mcl;rw[show 25+j=(24+j)+1 by omega,List.getElem?_cons_succ,List.getElem?_append_right (by simp[cl])];simp[cl]
theorem Blk.rangeM (h:Blk b (mca m) t W):W.rangeAt b 0 (mcl m):=fun j x hx=>by
 rw[Nat.zero_add,cell_of_row W b j _ _ _ h];unfold mca;simpa using hx
theorem Blk.cellsM (h:Blk b (mca m) t W):W.cell? ⟨b,0,none⟩=some (.int .i64 m.u.kind)∧W.rangeAt b 1 (cl m.u.m)∧W.cell? ⟨b,25,none⟩=some (.int .i64 m.u.p)∧W.cell? ⟨b,26,none⟩=some (.slice m.q m.n m.c)∧W.cell? ⟨b,27,none⟩=some (.int .i64 m.u.idle)∧W.cell? ⟨b,28,none⟩=some (.int .i64 m.u.hard)∧W.cell? ⟨b,29,none⟩=some (.int .i64 m.u.owner)∧W.cell? ⟨b,30,none⟩=some (.bool m.u.chk):=by
 have r:=h.rangeM;have e:∀k,0+k=k:=fun k=>Nat.zero_add k;exact⟨e 0 ▸ r 0 _ rfl,fun j x hx=>by have:=r (1+j) x (mcl_mid m hx);rwa [Nat.zero_add] at this,e 25 ▸ r 25 _ (mcl_ge m 0),e 26 ▸ r 26 _ (mcl_ge m 1),e 27 ▸ r 27 _ (mcl_ge m 2),e 28 ▸ r 28 _ (mcl_ge m 3),e 29 ▸ r 29 _ (mcl_ge m 4),e 30 ▸ r 30 _ (mcl_ge m 5)⟩
end
theorem infoM:(Tryz.prog.info? 40).map (·.size)=some 31:=by kernel_rfl
def extB (u : Mu) : Bool := (u.idle == 0) && ((u.hard == 0) && !u.chk)
def fitK (u : Mu) : Bool := if u.kind = 1 then true else if u.kind = 2 then extB u && (u.p == 0) else if u.kind = 3 then extB u && ((u.p == 0) && decide (u.acts.length = 0)) else if u.kind = 4 then extB u else if u.kind = 5 then extB u && decide (u.acts.length = 0) else false
theorem sndM_split (u:Mu):sndM u=(fitK u&&sndR (newU u)):=by
 have eb:∀a:Int,(a==0)=decide (a=0):=fun a=>(by by_cases h:a=0<;>simp[h]);have hz:∀y:Bool,(decide ((0:Int)≤0)&&y)=y:=fun y=>(by simp);unfold sndM fitK extB sndR newU;simp only[eb];generalize csnd u.m=x1;generalize sndAL u.acts=x2;generalize upB u.p 65535=x3;generalize upB u.owner 255=x4;generalize upB u.idle 1048576=x5;generalize upB u.hard 1048576=x6;generalize decide (u.idle=0)=y1;generalize decide (u.hard=0)=y2;generalize decide (u.p=0)=y3;generalize decide (u.acts.length=0)=y4;generalize u.chk=y5;by_cases h1:u.kind=1
 ·simp only[h1];cases x1<;>cases x2<;>cases x3<;>cases x4<;>cases x5<;>cases x6<;>simp
 by_cases h2:u.kind=2
 ·simp only[h2];cases x1<;>cases x2<;>cases x3<;>cases x4<;>cases x5<;>cases x6<;>simp
 by_cases h3:u.kind=3
 ·simp only[h3];cases x1<;>cases x2<;>cases x3<;>cases x4<;>cases x5<;>cases x6<;>simp[Bool.and_assoc]
 by_cases h4:u.kind=4
 ·simp only[h4];cases x1<;>cases x2<;>cases x3<;>cases x4<;>cases x5<;>cases x6<;>simp
 by_cases h5:u.kind=5
 ·simp only[h5];cases x1<;>cases x2<;>cases x3<;>cases x4<;>cases x5<;>cases x6<;>simp
 have hn:(decide (1≤u.kind)&&decide (u.kind≤5))=false:=(by rw[Bool.and_eq_false_iff,decide_eq_false_iff_not,decide_eq_false_iff_not];omega);rw[hn,if_neg h1,if_neg h2,if_neg h3,if_neg h4,if_neg h5,Bool.false_and,Bool.false_and]
theorem eq_true0 {a k:Int} (h:a=k):(a==k)=true:=by simpa using h
theorem eq_false0 {a k:Int} (h:a≠k):(a==k)=false:=by simpa using h
set_option maxHeartbeats 1000000 in
theorem extras_any (m:Mm) (w:World):Calls Tryz.prog 148 #[.agg (mca m)] w fun e w'=>e= .returned (.bool (extB m.u))∧Below w.heap.size w w':=by
 obtain⟨_,_,_,_,k27,k28,_,k30⟩:=(Blk.new w (mca m) 40).cellsM;have HB:=qH (below1 w (.cells (mca m) 40));unfold extB;by_cases h1:m.u.idle=0
 ·have h1d:=eq_true0 h1;rw[h1d,Bool.true_and];by_cases h2:m.u.hard=0
  ·have h2d:=eq_true0 h2;rw[h2d,Bool.true_and];(go_enter Tryz.func148,Tryz.ntmps148);go_wp2;go_ret;exact⟨rfl,HB.out⟩
  ·have h2d:=eq_false0 h2;rw[h2d,Bool.false_and];(go_enter Tryz.func148,Tryz.ntmps148);go_wp2;go_ret;exact⟨rfl,HB.out⟩
 ·have h1d:=eq_false0 h1;rw[h1d,Bool.false_and];(go_enter Tryz.func148,Tryz.ntmps148);go_wp2;go_ret;exact⟨rfl,HB.out⟩
theorem builtNew (m:Mm):Tryz.prog.built 88 [(0,.agg (cc m.u.m)),(1,.int .i64 m.u.p),(2,.slice m.q m.n m.c),(3,.int .i64 m.u.idle),(4,.int .i64 m.u.hard),(5,.int .i64 m.u.owner)]=some (rca (newR m)):=by kernel_rfl
theorem buildNew {ops:Array Oper} {rest:List Oper} {o:Oper} {a:Act} {w:World} {Q:Exit→Act→World→Prop} (hg:o.guard=none) (x0 x1 x2 x3 x4 x5:Operand) (ho:o.op= .build 88 #[(0,x0),(1,x1),(2,x2),(3,x3),(4,x4),(5,x5)]) (m:Mm) (h0:a.eval x0= .agg (cc m.u.m)) (h1:a.eval x1= .int .i64 m.u.p) (h2:a.eval x2= .slice m.q m.n m.c) (h3:a.eval x3= .int .i64 m.u.idle) (h4:a.eval x4= .int .i64 m.u.hard) (h5:a.eval x5= .int .i64 m.u.owner) (h:wpList Tryz.prog ops Q rest (a.put o.dst (.agg (rca (newR m)))) w):wpList Tryz.prog ops Q (o::rest) a w:=by
 have e:((#[(0,x0),(1,x1),(2,x2),(3,x3),(4,x4),(5,x5)]:Array (Nat×Operand)).map fun(p:Nat×Operand)=>(p.1,a.eval p.2)).toList=[(0,.agg (cc m.u.m)),(1,.int .i64 m.u.p),(2,.slice m.q m.n m.c),(3,.int .i64 m.u.idle),(4,.int .i64 m.u.hard),(5,.int .i64 m.u.owner)]:=(by simp[h0,h1,h2,h3,h4,h5]);have e':=congrArg (Tryz.prog.built 88) e;rw[builtNew] at e';refine wpList_build hg 88 _ ho (by rw[e'];rfl) ?_;rw[e'];exact h
set_option maxHeartbeats 1000000 in
theorem ruleof_any (m:Mm) (w:World):Calls Tryz.prog 128 #[.agg (mca m)] w fun e w'=>e= .returned (.agg (rca (newR m)))∧Below w.heap.size w w':=by
 have R0:=qH ((Blk.new w (mca m) 40).old (.cells #[.int .u64 0,.int .u64 0,.int .u64 0,.int .u64 0,.int .u64 0,.int .u64 0,.int .u64 0,.int .u64 0,.int .u64 0,.int .u64 0,.int .u64 0,.int .u64 0,.int .u64 0,.int .u64 0,.int .u64 0,.int .u64 0,.int .u64 0,.int .u64 0,.int .u64 0,.int .u64 0,.int .u64 0,.int .u64 0,.int .u64 0,.int .u64 0,.int .i64 0,Value.slice none 0 0,.int .i64 0,.int .i64 0,.int .i64 0,.int .i64 0,.int .i64 0,.int .i64 0] 88));have R1:=qH (Blk.new2 w (.cells (mca m) 40) #[.int .u64 0,.int .u64 0,.int .u64 0,.int .u64 0,.int .u64 0,.int .u64 0,.int .u64 0,.int .u64 0,.int .u64 0,.int .u64 0,.int .u64 0,.int .u64 0,.int .u64 0,.int .u64 0,.int .u64 0,.int .u64 0,.int .u64 0,.int .u64 0,.int .u64 0,.int .u64 0,.int .u64 0,.int .u64 0,.int .u64 0,.int .u64 0,.int .i64 0,Value.slice none 0 0,.int .i64 0,.int .i64 0,.int .i64 0,.int .i64 0,.int .i64 0,.int .i64 0] 88);have HB:=qH ((below1 w (.cells (mca m) 40)).trans ((below1 (w.alloc (.cells (mca m) 40)) (.cells #[.int .u64 0,.int .u64 0,.int .u64 0,.int .u64 0,.int .u64 0,.int .u64 0,.int .u64 0,.int .u64 0,.int .u64 0,.int .u64 0,.int .u64 0,.int .u64 0,.int .u64 0,.int .u64 0,.int .u64 0,.int .u64 0,.int .u64 0,.int .u64 0,.int .u64 0,.int .u64 0,.int .u64 0,.int .u64 0,.int .u64 0,.int .u64 0,.int .i64 0,Value.slice none 0 0,.int .i64 0,.int .i64 0,.int .i64 0,.int .i64 0,.int .i64 0,.int .i64 0] 88)).mono (below1 w (.cells (mca m) 40)).size));have M0:=qH R0.out.cellsM.2.1;obtain⟨_,_,k25,k26,k27,k28,k29,_⟩:=R0.out.cellsM;(go_enter Tryz.func128,Tryz.ntmps128);(go_upto_region 1 with fail);generalize(w.alloc (.cells (mca m) 40)).alloc (.cells #[.int .u64 0,.int .u64 0,.int .u64 0,.int .u64 0,.int .u64 0,.int .u64 0,.int .u64 0,.int .u64 0,.int .u64 0,.int .u64 0,.int .u64 0,.int .u64 0,.int .u64 0,.int .u64 0,.int .u64 0,.int .u64 0,.int .u64 0,.int .u64 0,.int .u64 0,.int .u64 0,.int .u64 0,.int .u64 0,.int .u64 0,.int .u64 0,.int .i64 0,Value.slice none 0 0,.int .i64 0,.int .i64 0,.int .i64 0,.int .i64 0,.int .i64 0,.int .i64 0] 88)=W at*;(go_wp2_with(first|(refine wpList_load_mid rfl 37 _ rfl w.heap.size 1 rfl (cl m.u.m) _ M0.out Tryz.underlying37 rfl infoCube ?_)|(refine buildNew rfl _ _ _ _ _ _ rfl m rfl rfl rfl rfl rfl rfl ?_)|(refine wpList_store_row rfl 88 _ _ rfl (w.heap.size+1) (rca (newR m)) rfl rfl 88 _ R1.out (by kernel_rfl) rfl (rca_one _) ?_)));have HB3:=qH (below_setRow HB.out (show w.heap.size≤w.heap.size+1 by omega) (rca (newR m)));have R4:=qH (R1.out.rset (rca (newR m)));refine bodyPost_ret (v:= .agg (rca (newR m))) ?_ rfl ⟨rfl,HB3.out⟩;exact res_one Tryz.results128 (cs:=rca (newR m)) rfl R4.out Tryz.underlying88 rfl (by kernel_rfl)
set_option maxHeartbeats 2000000 in
theorem mfits_any (m:Mm) (hn:m.n=m.u.acts.length) (w:World):Calls Tryz.prog 127 #[.agg (mca m)] w fun e w'=>e= .returned (.bool (fitK m.u))∧Below w.heap.size w w':=by
 have R0:=qH (Blk.new w (mca m) 40);have k0:=R0.out.cellsM.1;have HB:=qH (below1 w (.cells (mca m) 40));have HX:=qH (extras_any m (w.alloc (.cells (mca m) 40)));unfold fitK;rw[←hn];clear hn;by_cases h1:m.u.kind=1
 ·rw[if_pos h1];have h1d:=eq_true0 h1;(go_enter Tryz.func127,Tryz.ntmps127);go_wp2;go_ret;exact⟨rfl,HB.out⟩
 rw[if_neg h1];have h1d:=eq_false0 h1;by_cases h2:m.u.kind=2
 ·rw[if_pos h2];have h2d:=eq_true0 h2;cases hx:extB m.u
  ·rw[hx] at HX;(go_enter Tryz.func127,Tryz.ntmps127);(go_wp2_with(first|(refine wpList_load_row rfl 40 _ rfl w.heap.size rfl 40 (mca m) (0,0) _ R0.out Tryz.underlying40 rfl infoM ?_)|(go_at_call 148;refine HX.out.mono ?_;rintro e w1 ⟨rfl,hw1⟩)));go_ret;exact⟨rfl,HB.out.trans (hw1.mono HB.out.size)⟩
  ·rw[hx] at HX;(go_enter Tryz.func127,Tryz.ntmps127);(go_wp2_with(first|(refine wpList_load_row rfl 40 _ rfl w.heap.size rfl 40 (mca m) (0,0) _ R0.out Tryz.underlying40 rfl infoM ?_)|(go_at_call 148;refine HX.out.mono ?_;rintro e w1 ⟨rfl,hw1⟩;refine Hid.out ?_)));have R1:=qH (R0.out.below hw1);have HB1:=qH (HB.out.trans (hw1.mono HB.out.size));clear hw1 HX R0 HB k0;obtain⟨_,_,k25,k26,_⟩:=R1.out.cellsM;refine qH ?_;by_cases hp:m.u.p=0
   ·have hpd:=eq_true0 hp;go_wp2;go_ret;exact⟨ret_bool (by simp[hp]),HB1.out⟩
   ·have hpd:=eq_false0 hp;go_wp2;go_ret;exact⟨ret_bool (by simp[hp]),HB1.out⟩
 rw[if_neg h2];have h2d:=eq_false0 h2;by_cases h3:m.u.kind=3
 ·rw[if_pos h3];have h3d:=eq_true0 h3;cases hx:extB m.u
  ·rw[hx] at HX;(go_enter Tryz.func127,Tryz.ntmps127);(go_wp2_with(first|(refine wpList_load_row rfl 40 _ rfl w.heap.size rfl 40 (mca m) (0,0) _ R0.out Tryz.underlying40 rfl infoM ?_)|(go_at_call 148;refine HX.out.mono ?_;rintro e w1 ⟨rfl,hw1⟩)));go_ret;exact⟨rfl,HB.out.trans (hw1.mono HB.out.size)⟩
  ·rw[hx] at HX;(go_enter Tryz.func127,Tryz.ntmps127);(go_wp2_with(first|(refine wpList_load_row rfl 40 _ rfl w.heap.size rfl 40 (mca m) (0,0) _ R0.out Tryz.underlying40 rfl infoM ?_)|(go_at_call 148;refine HX.out.mono ?_;rintro e w1 ⟨rfl,hw1⟩;refine Hid.out ?_)));have R1:=qH (R0.out.below hw1);have HB1:=qH (HB.out.trans (hw1.mono HB.out.size));clear hw1 HX R0 HB k0;obtain⟨_,_,k25,k26,_⟩:=R1.out.cellsM;refine qH ?_;by_cases hp:m.u.p=0
   ·have hpd:=eq_true0 hp;by_cases hl:m.n=0
    ·have hld:(((m.n:Nat):Int)==0)=true:=(by simpa using hl);go_wp2;go_ret;exact⟨ret_bool (by first|(simp[hp,hl];done)|(simp[hl];done)),HB1.out⟩
    ·have hld:(((m.n:Nat):Int)==0)=false:=(by simpa using hl);go_wp2;go_ret;exact⟨ret_bool (by first|(simp[hp,hl];done)|(simp[hl];done)),HB1.out⟩
   ·have hpd:=eq_false0 hp;go_wp2;go_ret;exact⟨ret_bool (by simp[hp]),HB1.out⟩
 rw[if_neg h3];have h3d:=eq_false0 h3;by_cases h4:m.u.kind=4
 ·rw[if_pos h4];have h4d:=eq_true0 h4;cases hx:extB m.u
  ·rw[hx] at HX;(go_enter Tryz.func127,Tryz.ntmps127);(go_wp2_with(first|(refine wpList_load_row rfl 40 _ rfl w.heap.size rfl 40 (mca m) (0,0) _ R0.out Tryz.underlying40 rfl infoM ?_)|(go_at_call 148;refine HX.out.mono ?_;rintro e w1 ⟨rfl,hw1⟩)));go_ret;exact⟨rfl,HB.out.trans (hw1.mono HB.out.size)⟩
  ·rw[hx] at HX;(go_enter Tryz.func127,Tryz.ntmps127);(go_wp2_with(first|(refine wpList_load_row rfl 40 _ rfl w.heap.size rfl 40 (mca m) (0,0) _ R0.out Tryz.underlying40 rfl infoM ?_)|(go_at_call 148;refine HX.out.mono ?_;rintro e w1 ⟨rfl,hw1⟩)));go_ret;exact⟨rfl,HB.out.trans (hw1.mono HB.out.size)⟩
 rw[if_neg h4];have h4d:=eq_false0 h4;by_cases h5:m.u.kind=5
 ·rw[if_pos h5];have h5d:=eq_true0 h5;cases hx:extB m.u
  ·rw[hx] at HX;(go_enter Tryz.func127,Tryz.ntmps127);(go_wp2_with(first|(refine wpList_load_row rfl 40 _ rfl w.heap.size rfl 40 (mca m) (0,0) _ R0.out Tryz.underlying40 rfl infoM ?_)|(go_at_call 148;refine HX.out.mono ?_;rintro e w1 ⟨rfl,hw1⟩)));go_ret;exact⟨rfl,HB.out.trans (hw1.mono HB.out.size)⟩
  ·rw[hx] at HX;(go_enter Tryz.func127,Tryz.ntmps127);(go_wp2_with(first|(refine wpList_load_row rfl 40 _ rfl w.heap.size rfl 40 (mca m) (0,0) _ R0.out Tryz.underlying40 rfl infoM ?_)|(go_at_call 148;refine HX.out.mono ?_;rintro e w1 ⟨rfl,hw1⟩;refine Hid.out ?_)));have R1:=qH (R0.out.below hw1);have HB1:=qH (HB.out.trans (hw1.mono HB.out.size));clear hw1 HX R0 HB k0;obtain⟨_,_,k25,k26,_⟩:=R1.out.cellsM;refine qH ?_;by_cases hl:m.n=0
   ·have hld:(((m.n:Nat):Int)==0)=true:=(by simpa using hl);go_wp2;go_ret;exact⟨ret_bool (by first|(simp[hp,hl];done)|(simp[hl];done)),HB1.out⟩
   ·have hld:(((m.n:Nat):Int)==0)=false:=(by simpa using hl);go_wp2;go_ret;exact⟨ret_bool (by first|(simp[hp,hl];done)|(simp[hl];done)),HB1.out⟩
 rw[if_neg h5];have h5d:=eq_false0 h5;(go_enter Tryz.func127,Tryz.ntmps127);go_wp2;go_ret;exact⟨rfl,HB.out⟩
set_option maxHeartbeats 1000000 in
theorem msound_any (m:Mm) (hw:WfM m.u) (w:World) (ha:InM m w) (ht:Tab w) (hz:0<w.heap.size):Calls Tryz.prog 102 #[.agg (mca m)] w fun e w'=>e= .returned (.bool (sndM m.u))∧Below w.heap.size w w':=by
 have R0:=qH (Blk.new w (mca m) 40);have HE:=qH ((Env.start ht hz).alloc (.cells (mca m) 40));have HF:=qH (mfits_any m ha.len (w.alloc (.cells (mca m) 40)));have HS:=qH (fun(W:World) (hb:Env w W)=>rsound_any (newR m) hw.new W ((ha.below hb.kept).new) hb.tab hb.lt);rw[sndM_split];clear ht ha hw;cases hf:fitK m.u
 ·rw[hf] at HF;rw[Bool.false_and];(go_enter Tryz.func102,Tryz.ntmps102);(go_wp2_with(first|(refine wpList_load_row rfl 40 _ rfl w.heap.size rfl 40 (mca m) (0,0) _ R0.out Tryz.underlying40 rfl infoM ?_)|(go_at_call 127;refine HF.out.mono ?_;rintro e w1 ⟨rfl,hw1⟩)));go_ret;exact⟨rfl,(HE.out.below hw1).kept⟩
 ·rw[hf] at HF;rw[Bool.true_and];(go_enter Tryz.func102,Tryz.ntmps102);(go_wp2_with(first|(refine wpList_load_row rfl 40 _ rfl w.heap.size rfl 40 (mca m) (0,0) _ R0.out Tryz.underlying40 rfl infoM ?_)|(go_at_call 127;refine HF.out.mono ?_;rintro e w1 ⟨rfl,hw1⟩;refine Hid.out ?_)));have R1:=qH (R0.out.below hw1);have HE1:=qH (HE.out.below hw1);clear hw1 HF R0 HE;have HN:=qH (ruleof_any m w1);refine qH ?_;(go_wp2_with(first|(refine loadRowG rfl 40 _ rfl w.heap.size rfl 40 (mca m) (0,0) R1.out Tryz.underlying40 rfl infoM ?_)|(go_at_call 128;refine HN.out.mono ?_;rintro e w2 ⟨rfl,hw2⟩;refine Hid.out ?_)));have HE2:=qH (HE1.out.below hw2);have HS2:=qH (HS.out w2 HE2.out);clear hw2 R1 HE1 HS HN;refine qH ?_;(go_wp2_with(go_at_call 104;refine HS2.out.mono ?_;rintro e w3 ⟨rfl,hw3⟩));go_ret;exact⟨rfl,(HE2.out.below hw3).kept⟩
def agR (r : Rm) : Value := .agg (rca r)
def wfr (r : Rm) : Prop := WfR r.u
set_option maxHeartbeats 1000000 in
theorem rindex_any (g:Nat) (cb:Array Value) (q:Rm→Bool) (eg:∀args w,(callFunc g args).run Tryz.prog w= .ok (.enter g args) w) (p:Option Addr) (cap:Nat) (l:List Rm) (hlen:l.length≤140737488355328) (hw:WfRL l) (w:World) (hl:KLies KR (.slice p l.length cap) l w) (hp:KPred agR wfr g cb q w):Calls Tryz.prog 133 #[.slice p l.length cap,.func (.func g) #[] cb] w fun e w'=>e= .returned (.int .i64 (kidx q l))∧Below w.heap.size w w':=by
 have HL:=qH hl;have HP:=qH hp;have HW:=qH hw;clear hl hp hw;(go_enter Tryz.func133,Tryz.ntmps133);go_wp2;go_loopg [8] l.length (fun k i wr=>∃r:Nat,r+k=l.length∧i= .int .i64 r∧(∀j b,j<r→l[j]? =some b→q b=false)∧Below w.heap.size w wr)
 case atStart=>exact⟨0,by omega,rfl,fun j _ h=>absurd h (by omega),Below.refl _ _⟩
 case round=>
  obtain⟨r,hr,rfl,hq,hb⟩:=hrel;have HQ:=qH hq;have HB:=qH hb;clear hq hb;by_cases hlt:r<l.length
  ·have hltI:(r:Int)<(l.length:Int):=(by omega);obtain⟨c,hc⟩:=lt_some hlt;obtain⟨b,o,rfl,hrg⟩:=(HL.out.below okR HB.out).at hc;have HR:=qH hrg;have HI:=qH hc;have HC:=qH (show Calls Tryz.prog g (#[.agg (rca c)]++cb) wr _ from HP.out wr HB.out c (HW.out.at hc));clear hrg hc;cases hq:q c
   ·rw[hq] at HC;have HH:=qH hq;clear hq;(go_wp2_with(first|(refine wpList_load_mid rfl 88 _ rfl b (o+r*32) rfl (rcl c) _ HR.out Tryz.underlying88 rfl infoR ?_)|(go_at_fn g;refine HC.out.mono ?_;rintro e w1 ⟨rfl,hw1⟩)));have HB1:=qH (HB.out.trans (hw1.mono HB.out.size));clear hw1 HC HR;go_roundg (l.length - (r+1))
    case measure=>omega
    case rel=>
     refine⟨r+1,by omega,by go_num,fun j b' hj hb'=>?_,HB1.out⟩;by_cases e:j=r
     ·subst e;rw[HI.out] at hb';rw[←Option.some.inj hb'];exact HH.out
     ·exact HQ.out j b' (by omega) hb'
   ·rw[hq] at HC;have HH:=qH (kidx_hit HI.out hq HQ.out);clear hq;(go_wp2_with(first|(refine wpList_load_mid rfl 88 _ rfl b (o+r*32) rfl (rcl c) _ HR.out Tryz.underlying88 rfl infoR ?_)|(go_at_fn g;refine HC.out.mono ?_;rintro e w1 ⟨rfl,hw1⟩)));have HB1:=qH (HB.out.trans (hw1.mono HB.out.size));clear hw1 HC HR;go_ret;exact⟨retI HH.out.symm,HB1.out⟩
  ·have hltI:¬(r:Int)<(l.length:Int):=(by omega);have HH:=qH (kidx_none (q:=q) (l:=l) fun j b hj=>HQ.out j b (by have:=(List.getElem?_eq_some_iff.1 hj).1;omega) hj);go_wp2;go_ret;exact⟨retI HH.out.symm,HB.out⟩
theorem rcontains_any (g:Nat) (cb:Array Value) (q:Rm→Bool) (eg:∀args w,(callFunc g args).run Tryz.prog w= .ok (.enter g args) w) (v:Value) (l:List Rm) (hlen:l.length≤140737488355328) (hw:WfRL l) (w:World) (hl:KLies KR v l w) (hp:KPred agR wfr g cb q w):Calls Tryz.prog 136 #[v,.func (.func g) #[] cb] w fun e w'=>e= .returned (.bool (l.any q))∧Below w.heap.size w w':=by
 obtain⟨p,cap,rfl⟩:=hl.form;have HI:=qH (rindex_any g cb q eg p cap l hlen hw w hl hp);have HA:=qH (kidx_any q l);clear hl hp hw;generalize kidx q l=y at*;(go_enter Tryz.func136,Tryz.ntmps136);(go_wp2_with(go_at_call 133;refine HI.out.mono ?_;rintro e w1 ⟨rfl,hw1⟩));go_ret;exact⟨ret_bool HA.out,hw1⟩
def TcS (B : Nat) (m : Mm) (b : Nat) (r : Rm) (W : World) : Prop := Blk B (mca m) 40 W ∧ Blk b (rca r) 88 W
theorem TcS.below {B b:Nat} {m:Mm} {r:Rm} {W W':World} (hb:Below W.heap.size W W') (h:TcS B m b r W):TcS B m b r W':=⟨h.1.below hb,h.2.below hb⟩
set_option maxHeartbeats 1000000 in
theorem tch1_any (m:Mm) (B:Nat) (r:Rm) (hr:WfR r.u) (hm:WfM m.u) (w:World) (hB:Blk B (mca m) 40 w) (ht:Tab w) (hz:0<w.heap.size):Calls Tryz.prog 142 #[.agg (rca r),.pointer (some ⟨B,0,none⟩)] w fun e w'=>e= .returned (.bool ((r.u.owner==m.u.owner)&&inB r.u.m m.u.m))∧Below w.heap.size w w':=by
 have RB:=qH (hB.below (below1 w (.cells (rca r) 88)));have RR:=qH (Blk.new w (rca r) 88);have HE:=qH ((Env.start ht hz).alloc (.cells (rca r) 88));have HC:=qH (cwithin_any r.u.m m.u.m (fun j=>(hr.m j).1) (fun j=>(hm.m j).1) _ HE.out.tab HE.out.lt);obtain⟨ma,_,_,_,_,k28,_⟩:=RR.out.cellsR;obtain⟨_,mb,_,_,_,_,k29,_⟩:=RB.out.cellsM;have MA:=qH ma;have MB:=qH mb;clear ht ma mb hr hm hB RB RR;generalize inB r.u.m m.u.m=y at*;by_cases ho:r.u.owner=m.u.owner
 ·have hod:(r.u.owner==m.u.owner)=true:=(by simpa using ho);rw[hod,Bool.true_and];(go_enter Tryz.func142,Tryz.ntmps142);(go_wp2_with(first|(refine loadMidG rfl 37 (.tmp 10) rfl w.heap.size 0 rfl (cl r.u.m) _ MA.out Tryz.underlying37 rfl infoCube ?_)|(refine loadMidG rfl 37 (.tmp 12) rfl B 1 rfl (cl m.u.m) _ MB.out Tryz.underlying37 rfl infoCube ?_)|(go_at_call 143;refine HC.out.mono ?_;rintro e w1 ⟨rfl,hw1⟩)));go_ret;exact⟨rfl,(HE.out.below hw1).kept⟩
 ·have hod:(r.u.owner==m.u.owner)=false:=(by simpa using ho);rw[hod,Bool.false_and];(go_enter Tryz.func142,Tryz.ntmps142);go_wp2;go_ret;exact⟨rfl,HE.out.kept⟩
set_option maxHeartbeats 1000000 in
theorem tch2_any (m:Mm) (B:Nat) (r:Rm) (w:World) (hB:Blk B (mca m) 40 w):Calls Tryz.prog 144 #[.agg (rca r),.pointer (some ⟨B,0,none⟩)] w fun e w'=>e= .returned (.bool ((r.u.owner==m.u.owner)&&keyB r.u (newU m.u)))∧Below w.heap.size w w':=by
 have HS:=qH (show TcS B m w.heap.size r (w.alloc (.cells (rca r) 88)) from⟨hB.below (below1 w (.cells (rca r) 88)),Blk.new _ _ _⟩);have HB:=qH (below1 w (.cells (rca r) 88));have HN:=qH (fun W=>ruleof_any m W);have HK:=qH (fun W=>key_any r (newR m) W);rw[show(newR m).u=newU m.u from rfl] at HK;generalize keyB r.u (newU m.u)=y at*;clear hB;by_cases ho:r.u.owner=m.u.owner
 ·have hod:(r.u.owner==m.u.owner)=true:=(by simpa using ho);rw[hod,Bool.true_and];(go_enter Tryz.func144,Tryz.ntmps144);(go_upto_region 1 with fail);refine wp_region_held_drew (S:=TcS B m w.heap.size r) (by kernel_rfl) (TcS.below (Below.refl _ _).drew HS.out) (fun hS=>?_);have HB1:=qH HB.out.drew;clear HB HS;generalize(w.alloc (.cells (rca r) 88)).drew=W at*;refine sR 0 hS ?_;refine sV 1 rfl (fun w hSw=>by have hc:=hSw.2.cellsR.2.2.2.2.2.1;go_simp<;>with_reducible rfl) hS ?_;refine sR 2 hS ?_;refine sV 3 rfl (fun w hSw=>by have hc:=hSw.1.cellsM.2.2.2.2.2.2.1;go_simp<;>with_reducible rfl) hS ?_;refine sR 4 hS ?_;refine sR 5 hS ?_;refine sV 6 rfl (fun w hSw=>execRow0 rfl _ rfl hSw.2 Tryz.underlying88 rfl infoR) hS ?_;refine sV 7 rfl (fun w hSw=>execRow0 rfl _ rfl hSw.1 Tryz.underlying40 rfl infoM) hS ?_;refine sC 8 (fun K hK=>?_);go_simp;refine(HN.out _).mono ?_;rintro e w1 ⟨rfl,hw1⟩;refine hK.out _ _ (TcS.below hw1 hS) (fun hS=>?_);clear hK K;(try simp only[Act.put,sA,sB,sE]);refine sC 9 (fun K hK=>?_);go_simp;refine(HK.out _).mono ?_;rintro e w2 ⟨rfl,hw2⟩;refine hK.out _ _ (TcS.below hw2 hS) (fun hS=>?_);clear hK K;(try simp only[Act.put,sA,sB,sE]);refine sR 10 hS ?_;refine sR 11 hS ?_;refine sD ?_;have HB2:=qH ((HB1.out.trans (hw1.mono HB1.out.size)).trans (hw2.mono (HB1.out.trans (hw1.mono HB1.out.size)).size));clear hS hw1 hw2;(go_wp2_with fail);go_ret;exact⟨rfl,HB2.out⟩
 ·have hod:(r.u.owner==m.u.owner)=false:=(by simpa using ho);rw[hod,Bool.false_and];(go_enter Tryz.func144,Tryz.ntmps144);(go_upto_region 1 with fail);refine wp_region_held_drew (S:=TcS B m w.heap.size r) (by kernel_rfl) (TcS.below (Below.refl _ _).drew HS.out) (fun hS=>?_);have HB1:=qH HB.out.drew;clear HB HS;generalize(w.alloc (.cells (rca r) 88)).drew=W at*;refine sR 0 hS ?_;refine sV 1 rfl (fun w hSw=>by have hc:=hSw.2.cellsR.2.2.2.2.2.1;go_simp<;>with_reducible rfl) hS ?_;refine sR 2 hS ?_;refine sV 3 rfl (fun w hSw=>by have hc:=hSw.1.cellsM.2.2.2.2.2.2.1;go_simp<;>with_reducible rfl) hS ?_;refine sR 4 hS ?_;refine sR 5 hS ?_;refine seqSkip 6 rfl (by kernel_rfl) (by kernel_rfl) (by kernel_rfl) (fun _ _ _ h=>h) rfl hS ?_;(try simp only[Act.put,sA,sB,sE]);refine seqSkip 7 rfl (by kernel_rfl) (by kernel_rfl) (by kernel_rfl) (fun _ _ _ h=>h) rfl hS ?_;(try simp only[Act.put,sA,sB,sE]);refine seqSkip 8 rfl (by kernel_rfl) (by kernel_rfl) (by kernel_rfl) (fun _ _ _ h=>h) rfl hS ?_;(try simp only[Act.put,sA,sB,sE]);refine seqSkip 9 rfl (by kernel_rfl) (by kernel_rfl) (by kernel_rfl) (fun _ _ _ h=>h) rfl hS ?_;(try simp only[Act.put,sA,sB,sE]);refine sR 10 hS ?_;refine sR 11 hS ?_;refine sD ?_;clear hS;(go_wp2_with fail);go_ret;exact⟨rfl,HB1.out⟩
theorem tch3_any (r:Rm) (w:World):Calls Tryz.prog 145 #[.agg (rca r)] w fun e w'=>e= .returned (.bool false)∧Below w.heap.size w w':=by
 have HB:=qH (below1 w (.cells (rca r) 88));(go_enter Tryz.func145,Tryz.ntmps145);go_wp2;go_ret;exact⟨rfl,HB.out⟩
theorem en59:∀args w,(callFunc 142 args).run Tryz.prog w= .ok (.enter 142 args) w:=enters_of Tryz.func142 (by kernel_rfl) rfl
theorem en61:∀args w,(callFunc 144 args).run Tryz.prog w= .ok (.enter 144 args) w:=enters_of Tryz.func144 (by kernel_rfl) rfl
theorem en62:∀args w,(callFunc 145 args).run Tryz.prog w= .ok (.enter 145 args) w:=enters_of Tryz.func145 (by kernel_rfl) rfl
def tcS (m : Mm) (r : Rm) : Bool := sndM m.u && tchB m.u r.u
def PredA (g : Nat) (cb : Array Value) (q : Rm → Bool) (B : Nat) (m : Mm) : Prop :=
  ∀ W, Blk B (mca m) 40 W → Tab W → 0 < W.heap.size → ∀ c, wfr c → Calls Tryz.prog g (#[agR c] ++ cb) W fun e w' => e = .returned (.bool (q c)) ∧ Below W.heap.size W w'
section
variable {m : Mm} {B : Nat}
theorem PredA.pred {g:Nat} {cb:Array Value} {q:Rm→Bool} {w:World} (h:PredA g cb q B m) (hB:Blk B (mca m) 40 w) (ht:Tab w) (hz:0<w.heap.size):KPred agR wfr g cb q w:=fun W hb c hc=>
 h W (hB.below hb) ((Env.start ht hz).predK W hb).1 ((Env.start ht hz).predK W hb).2 c hc
theorem pred1 (hm:WfM m.u) (hs:sndM m.u=true) (hk:m.u.kind=2∨m.u.kind=3):PredA 142 #[.pointer (some ⟨B,0,none⟩)] (tcS m) B m:=fun W hB ht hz r hr=>by
 have:=tch1_any m B r hr hm W hB ht hz;have e:tcS m r=((r.u.owner==m.u.owner)&&inB r.u.m m.u.m):=(by unfold tcS tchB;rw[hs,if_pos hk,Bool.true_and]);rw[e];exact this
theorem pred2 (hs:sndM m.u=true) (hk:m.u.kind=4∨m.u.kind=5):PredA 144 #[.pointer (some ⟨B,0,none⟩)] (tcS m) B m:=fun W hB _ _ r hr=>by
 have:=tch2_any m B r W hB;have e:tcS m r=((r.u.owner==m.u.owner)&&keyB r.u (newU m.u)):=(by unfold tcS tchB keyB newU;rw[hs,if_neg (by omega),if_pos hk,Bool.true_and,Bool.and_comm (cEq r.u.m m.u.m)]);rw[e];exact this
theorem pred3 (hn:∀r,tcS m r=false):PredA 145 #[] (tcS m) B m:=fun W _ _ _ r hr=>by
 have:=tch3_any r W;rw[hn r];exact this
end
def TbyRet (m : Mm) (w : World) (e : Ending) (w' : World) : Prop := ∃ g cb, e = .returned (.func (.func g) #[] cb) ∧ (∀ args w, (callFunc g args).run Tryz.prog w = .ok (.enter g args) w) ∧ PredA g cb (tcS m) w.heap.size m ∧ Blk w.heap.size (mca m) 40 w' ∧ Below w.heap.size w w'
set_option maxHeartbeats 2000000 in
theorem tby_any (m:Mm) (hw:WfM m.u) (w:World) (ha:InM m w) (ht:Tab w) (hz:0<w.heap.size):Calls Tryz.prog 111 #[.agg (mca m)] w (TbyRet m w):=by
 have R0:=qH (Blk.new w (mca m) 40);have HE:=qH ((Env.start ht hz).alloc (.cells (mca m) 40));have HF:=qH (msound_any m hw _ (ha.below (below1 w (.cells (mca m) 40))) HE.out.tab HE.out.lt);have HW:=qH hw;clear ht ha hw;cases hs:sndM m.u
 ·rw[hs] at HF;have HN:=qH (show ∀r,tcS m r=false from fun r=>by unfold tcS;rw[hs,Bool.false_and]);clear hs;(go_enter Tryz.func111,Tryz.ntmps111);(go_wp2_with(first|(refine wpList_load_row rfl 40 _ rfl w.heap.size rfl 40 (mca m) (0,0) _ R0.out Tryz.underlying40 rfl infoM ?_)|(go_at_call 102;refine HF.out.mono ?_;rintro e w1 ⟨rfl,hw1⟩)));go_ret;exact⟨_,_,rfl,en62,pred3 HN.out,R0.out.below hw1,(HE.out.below hw1).kept⟩
 ·rw[hs] at HF;have HS:=qH hs;clear hs;(go_enter Tryz.func111,Tryz.ntmps111);(go_upto_region 2 with(first|(refine wpList_load_row rfl 40 _ rfl w.heap.size rfl 40 (mca m) (0,0) _ R0.out Tryz.underlying40 rfl infoM ?_)|(go_at_call 102;refine HF.out.mono ?_;rintro e w1 ⟨rfl,hw1⟩)));have R1:=qH (R0.out.below hw1);have HE1:=qH (HE.out.below hw1);clear hw1 R0 HE HF;have k0:=R1.out.cellsM.1;by_cases h2:m.u.kind=2
  ·have h2d:=eq_true0 h2;go_wp2;go_ret;exact⟨_,_,rfl,en59,pred1 HW.out HS.out (by omega),R1.out,HE1.out.kept⟩
  have h2d:=eq_false0 h2;by_cases h3:m.u.kind=3
  ·have h3d:=eq_true0 h3;go_wp2;go_ret;exact⟨_,_,rfl,en59,pred1 HW.out HS.out (by omega),R1.out,HE1.out.kept⟩
  have h3d:=eq_false0 h3;by_cases h4:m.u.kind=4
  ·have h4d:=eq_true0 h4;go_wp2;go_ret;exact⟨_,_,rfl,en61,pred2 HS.out (by omega),R1.out,HE1.out.kept⟩
  have h4d:=eq_false0 h4;by_cases h5:m.u.kind=5
  ·have h5d:=eq_true0 h5;go_wp2;go_ret;exact⟨_,_,rfl,en61,pred2 HS.out (by omega),R1.out,HE1.out.kept⟩
  have h5d:=eq_false0 h5;have HN:=qH (show ∀r,tcS m r=false from fun r=>by unfold tcS tchB;rw[if_neg (by omega),if_neg (by omega),Bool.and_false,Bool.and_false]);go_wp2;go_ret;exact⟨_,_,rfl,en62,pred3 HN.out,R1.out,HE1.out.kept⟩
end Go.Proofs.YtomnpfbebimpkaaGreatDoor
