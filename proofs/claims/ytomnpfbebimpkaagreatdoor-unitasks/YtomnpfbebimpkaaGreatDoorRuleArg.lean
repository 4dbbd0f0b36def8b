/-
  Rules that come in, by value and in slices, opened; how long their actions can be.
-/
import Derived.Test.YtomnpfbebimpkaaGreatDoorRows
import Derived.Test.YtomnpfbebimpkaaGreatDoorTie
import Derived.Test.YtomnpfbebimpkaaGreatDoorCards
import Derived.Test.YtomnpfbebimpkaaGreatDoorPackHead
import Derived.ProofKit
import Derived.LaidMore
import Derived.OpenShut
import Derived.ShutString
import Derived.Stop.Joined
import Derived.SevenTiedAt
import Derived.Test.YtomnpfbebimpkaaGreatDoorSq
import Derived.Test.YtomnpfbebimpkaaGreatDoorPackAct
import Derived.Deep.Slices
import Derived.Carry
import Derived.ChangeSame
import Derived.SizedLaws
import Derived.Test.YtomnpfbebimpkaaGreatDoorPackCube
import Derived.Test.YtomnpfbebimpkaaGreatDoorPackRule
/-
  From the row's condition (the field table reads as the program's text lays it) to the table's cells; the witness's world; the row's last step for a call that only makes new memory.
-/
namespace Go.Proofs.YtomnpfbebimpkaaGreatDoor
set_option maxRecDepth 20000
open Go.ChangeShapes Go.WideShapes Go.ChangeAt Go.RowKit
theorem own:ownKnob Tryz.prog.godebug=none:=by kernel_rfl
abbrev layName : String := ((Rows.unitPlaysRow.laid.map (·.1)).head?).getD (String.ofList [])
theorem gLay:Tryz.prog.globalNamed layName=some 0:=by kernel_rfl
theorem tLay:(Tryz.prog.globals[0]?).map (·.type)=some 178:=by kernel_rfl
theorem cArr:Tryz.prog.cellsOf 178=24:=by kernel_rfl
theorem cLay:Tryz.prog.cellsOf 177=2:=by kernel_rfl
theorem cStr:Tryz.prog.cellsOf 9=1:=by kernel_rfl
theorem cInt:Tryz.prog.cellsOf 3=1:=by kernel_rfl
abbrev laid1 : List (String × DataW Unit) := Rows.unitPlaysRow.laid
theorem door_met (os:Os) (args:Array Value):laidMetH Tryz.prog laid1 ((World.doorLaid Tryz.prog 400 os).forCall (fun _ _=>0) ⟨#[],args,[]⟩).memory:=laidMetH_of_parts3 (fuel:=8) (laidMet_of_run' 8 (by kernel_rfl) (by kernel_rfl)) (by kernel_rfl) (by kernel_rfl)
theorem lay_at {H:Type}:∀(k:Nat),k<12→∀L:List (DataW H),Rows.laid_podesta_head_layouts= .agg L→L[k]? =some (.agg [.lit (.string (nm k).data.toList),.lit (.int .i64 (sz k))]):=by
 intro k hk L hL;unfold Rows.laid_podesta_head_layouts at hL;simp only[DataW.agg.injEq] at hL;subst hL;match k,hk with
 |0,_=>rfl
 |1,_=>rfl
 |2,_=>rfl
 |3,_=>rfl
 |4,_=>rfl
 |5,_=>rfl
 |6,_=>rfl
 |7,_=>rfl
 |8,_=>rfl
 |9,_=>rfl
 |10,_=>rfl
 |11,_=>rfl
 |k+12,h=>exact absurd h (by omega)
theorem at_of_cut {l:List Value} {i j:Nat} {v:Value} (hj:j<2) (h:(((l.drop i).take 2).drop j).take 1=[v]):l[i+j]? =some v:=by
 have h0:((((l.drop i).take 2).drop j).take 1)[0]? =some v:=(by rw[h];rfl);rw[List.getElem?_take,if_pos (by decide),List.getElem?_drop,List.getElem?_take,if_pos (by omega),List.getElem?_drop] at h0;simpa using h0
theorem tab_of_cells {cs:Array Value} (hs:cs.size=24) (h:∀k,k<12→cs[k*2]? =some (.string (nm k))∧cs[k*2+1]? =some (.int .i64 (sz k))):cs=tabArr:=by
 apply Array.ext_getElem?;intro i;by_cases hi:i<24
 ·obtain⟨k,hk,rfl|rfl⟩:∃k,k<12∧(i=k*2∨i=k*2+1):=⟨i / 2,by omega,by omega⟩
  ·rw[(h k hk).1];match k,hk with
   |0,_=>rfl
   |1,_=>rfl
   |2,_=>rfl
   |3,_=>rfl
   |4,_=>rfl
   |5,_=>rfl
   |6,_=>rfl
   |7,_=>rfl
   |8,_=>rfl
   |9,_=>rfl
   |10,_=>rfl
   |11,_=>rfl
   |k+12,h=>exact absurd h (by omega)
  ·rw[(h k hk).2];match k,hk with
   |0,_=>rfl
   |1,_=>rfl
   |2,_=>rfl
   |3,_=>rfl
   |4,_=>rfl
   |5,_=>rfl
   |6,_=>rfl
   |7,_=>rfl
   |8,_=>rfl
   |9,_=>rfl
   |10,_=>rfl
   |11,_=>rfl
   |k+12,h=>exact absurd h (by omega)
 ·rw[Array.getElem?_eq_none (by omega),Array.getElem?_eq_none (by show 24≤i;omega)]
theorem tab_of_laid {W:World} (h:laidMetH Tryz.prog laid1 W):Tab W:=by
 rw[MakeChecks.laidMetH_plain _ _ _ (by kernel_rfl)] at h;obtain⟨ps,⟨g0,t0,cs0,f0,p0,q0,hg0,ht0,hv0,hd0,_,_⟩,_,_⟩:=h;obtain rfl:=Option.some.inj (gLay.symm.trans hg0);obtain rfl:=Option.some.inj (tLay.symm.trans ht0);obtain⟨xs,m1,rfl,hx1,hlen,hn,hel⟩:=DataW.trod_array Tryz.underlying178 hd0;simp only[Prod.mk.injEq] at hx1;have key:∀k,k<12→cs0[k*2]? =some (.string (nm k))∧cs0[k*2+1]? =some (.int .i64 (sz k)):=(by intro k hk;have hk':=lay_at k hk _ hx1.1;rw[List.getElem?_map,Option.map_eq_some_iff] at hk';obtain⟨x,hx,hx2⟩:=hk';have hE:=hel k hk;rw[hx,cLay] at hE;obtain⟨y0,y1,m2,hy,_,hy0,hy1⟩:=trod_struct2 Tryz.underlying177 hE;rw[hy] at hx2;simp only[DataW.agg.injEq,List.cons.injEq,and_true] at hx2;obtain⟨s,e0,es,_⟩:=DataW.trod_string Tryz.underlying9 hy0;obtain⟨n,e1,en,_⟩:=DataW.trod_int Tryz.underlying3 hy1;rw[es,en] at hx2;simp only[DataW.lit.injEq,Lit.string.injEq,Lit.int.injEq,true_and] at hx2;obtain⟨hs,rfl⟩:=hx2;have hs':s=nm k:=(by obtain⟨⟨a⟩⟩:=s;generalize nm k=t at hs;obtain⟨⟨b⟩⟩:=t;simp at hs;rw[hs]);subst hs';rw[cStr] at e0;rw[cInt] at e1;have a0:=at_of_cut (j:=0) (by decide) e0;have a1:=at_of_cut (j:=1) (by decide) e1;exact⟨by simpa using a0,by simpa using a1⟩);have hcs:cs0=tabArr:=tab_of_cells (by rw[cArr] at hlen;simpa using hlen) key;refine⟨fun k hk=>⟨(World.var?_cell hg0 hv0 (k*2)).trans (key k hk).1,(World.var?_cell hg0 hv0 (k*2+1)).trans (key k hk).2⟩,?_⟩;subst hcs;simp only[World.var?,hg0,Option.bind_some] at hv0;split at hv0<;>simp_all
theorem Tab.size {W:World} (h:Tab W):0<W.heap.size:=World.block_lt_of_cell? W _ (h.1 0 (by decide)).1
theorem cU64':Tryz.prog.cellsOf 33=1:=by kernel_rfl
theorem cHead:Tryz.prog.cellsOf 35=12:=by kernel_rfl
section
variable {H : Type} {enc : TypeId × Value → H} {W : World} {base : Nat} {sp : Nat → Bool} {held : Bool}
def hd (a : Nat → Int) : DataW H := .agg [.lit (.int .u64 (a 0)), .lit (.int .u64 (a 1)), .lit (.int .u64 (a 2)), .lit (.int .u64 (a 3)), .lit (.int .u64 (a 4)), .lit (.int .u64 (a 5)), .lit (.int .u64 (a 6)), .lit (.int .u64 (a 7)), .lit (.int .u64 (a 8)), .lit (.int .u64 (a 9)), .lit (.int .u64 (a 10)), .lit (.int .u64 (a 11))]
def numAt (l : List Value) (j : Nat) : Int := match l[j]? with
  | some (.int _ n) => n
  | _ => 0
theorem trod_head {fuel:Nat} {cs:List Value} {x:DataW H×List MemPlace} (h:DataW.trod enc Tryz.prog W base sp held fuel 35 cs=some x):∃a:Nat→Int,cs=(hc a).toList∧x=(hd a,[])∧∀j,(Lit.int .u64 (a j)).wf=true:=by
 obtain⟨xs,m,_,rfl,hl,hx,hel⟩:=DataW.trod_array Tryz.underlying35 h;rw[cHead] at hl;have key:∀j,j<12→cs[j]? =some (.int .u64 (numAt cs j))∧xs[j]? =some (.lit (.int .u64 (numAt cs j)),[])∧(Lit.int .u64 (numAt cs j)).wf=true:=by
  intro j hj;have:=hel j hj;rw[cU64',Nat.mul_one] at this;cases hxj:xs[j]? with
  |none=>rw[List.getElem?_eq_none_iff] at hxj;omega
  |some y=>rw[hxj] at this;obtain⟨n,e1,e2,e3⟩:=DataW.trod_int Tryz.underlying33 this;have h0:((cs.drop j).take 1)[0]? =some (.int .u64 n):=(by rw[e1];rfl);rw[List.getElem?_take,if_pos (by decide),List.getElem?_drop] at h0;have h1:cs[j]? =some (.int .u64 n):=(by simpa using h0);have h2:numAt cs j=n:=(by unfold numAt;rw[h1]);rw[h2];exact⟨h1,by rw[e2],e3⟩
 refine⟨numAt cs,?_,?_,?_⟩
 ·apply List.ext_getElem?;intro j;by_cases hj:j<12
  ·have e:=hc_at (numAt cs) j hj;rw[←Array.getElem?_toList] at e;rw[e,(key j hj).1]
  ·rw[List.getElem?_eq_none (by omega),List.getElem?_eq_none (by show 12≤j;omega)]
 ·obtain rfl:xs=(List.range 12).map fun j=>(.lit (.int .u64 (numAt cs j)),[]):=by
   apply List.ext_getElem?;intro j;by_cases hj:j<12
   ·rw[(key j hj).2.1];simp[hj]
   ·rw[List.getElem?_eq_none (by omega),List.getElem?_eq_none (by simp;omega)]
  simp[hd,List.range,List.range.loop]
 ·intro j;by_cases hj:j<12
  ·exact(key j hj).2.2
  ·have:numAt cs j=0:=(by unfold numAt;rw[List.getElem?_eq_none (by omega)]);rw[this];rfl
end
end Go.Proofs.YtomnpfbebimpkaaGreatDoor

namespace Go.Proofs.YtomnpfbebimpkaaGreatDoor
set_option maxRecDepth 20000
open Go.ChangeShapes Go.WideShapes Go.ChangeAt Go.RowKit
theorem laidOutK:laidOutB Tryz.prog=true:=by kernel_rfl
theorem spot_ofK {W:World} {a:Addr} {v:Value} (h:W.cell? a=some v):a.spot=none:=by
 unfold World.cell? at h;split at h
 ·split at h
  ·cases h
  ·rename_i hs;cases hsp:a.spot with
   |none=>rfl
   |some x=>rw[hsp] at hs;exact absurd rfl hs
 ·cases h
section
variable {H : Type} {enc : TypeId × Value → H} {W : World} {base : Nat} {sp : Nat → Bool} {held : Bool}
theorem trod_struct4K {P:Program} {t:TypeId} {f0 f1 f2 f3:Field} {fuel:Nat} {cs:List Value} {x:DataW H×List MemPlace} (ht:P.underlying t=some (.struct #[f0,f1,f2,f3])) (h:DataW.trod enc P W base sp held fuel t cs=some x):∃y0 y1 y2 y3 n,cs.length=P.cellsOf t∧DataW.trod enc P W base sp held n f0.type ((cs.drop f0.offset).take (P.cellsOf f0.type))=some y0∧DataW.trod enc P W base sp held n f1.type ((cs.drop f1.offset).take (P.cellsOf f1.type))=some y1∧DataW.trod enc P W base sp held n f2.type ((cs.drop f2.offset).take (P.cellsOf f2.type))=some y2∧DataW.trod enc P W base sp held n f3.type ((cs.drop f3.offset).take (P.cellsOf f3.type))=some y3:=by
 obtain⟨xs,n,_,rfl,hl,hlen,hf⟩:=DataW.trod_struct ht h;match xs,hlen with
 |[y0,y1,y2,y3],_=>exact⟨y0,y1,y2,y3,n,hl,by simpa using hf 0 f0 rfl,by simpa using hf 1 f1 rfl,by simpa using hf 2 f2 rfl,by simpa using hf 3 f3 rfl⟩
theorem trod_act (fuel:Nat) (cs:List Value) (x:DataW H×List MemPlace) (h:DataW.trod enc Tryz.prog W base sp held fuel 83 cs=some x):∃a:Ac,cs=acl a∧WfA a:=by
 obtain⟨y0,y1,y2,y3,n,hl,h0,h1,h2,h3⟩:=trod_struct4K Tryz.underlying83 h;have hlen:cs.length=4:=(by rw[hl];kernel_rfl);have cI:Tryz.prog.cellsOf 3=1:=(by kernel_rfl);have cU:Tryz.prog.cellsOf 33=1:=(by kernel_rfl);obtain⟨k,e0,_,_⟩:=DataW.trod_int Tryz.underlying3 h0;obtain⟨p,e1,_,_⟩:=DataW.trod_int Tryz.underlying3 h1;obtain⟨f,e2,_,_⟩:=DataW.trod_int Tryz.underlying3 h2;obtain⟨v,e3,_,w3⟩:=DataW.trod_int Tryz.underlying33 h3;match cs,hlen with
 |[a,b,c,d],_=>rw[cI] at e0 e1 e2;rw[cU] at e3;simp at e0 e1 e2 e3;subst e0 e1 e2 e3;refine⟨⟨k,p,f,v⟩,rfl,?_⟩;simp only[Lit.wf,Bool.and_eq_true,decide_eq_true_eq] at w3;have e:IntKind.u64.max=18446744073709551615:=(by decide);exact⟨w3.1,by show v<_;have:=w3.2;omega⟩
theorem cAct:Tryz.prog.cellsOf 83=4:=by kernel_rfl
end
section
variable {H : Type} {enc : TypeId × Value → H} {W : World} {base : Nat} {sp : Nat → Bool} {held : Bool}
end
theorem post_oldK {H:Type} {enc:TypeId×Value→H} {P:Program} {f:Func} {s:ChangeSpec} {apart fresh handsOn:Bool} {W W':World} {args:Array Value} {v:Value} {ds:List (DataW H)} {before pa:List MemPlace} (hW:DataW.Whole enc P f.params.toList s.vars apart W args.toList ds [] before) (hb:Below W.heap.size W W') (hres:∀(b:Nat) (sp:Nat→Bool) (hd:Bool),DataW.TrodAll enc P W' b sp hd f.resultTypes.toList (v.resultList f.resultTypes.size) (s.fn H (ds++[])).results []) (hargs:DataW.TrodAll enc P W' 0 (fun b=>decide (b<W.heap.size)) true f.params.toList args.toList (s.fn H (ds++[])).args pa) (hvars:∀sp:Nat→Bool,DataW.TrodVars enc P W' sp s.vars (s.fn H (ds++[])).vars []):s.post enc P f apart fresh handsOn false W args v W':=⟨ds,[],before,[],pa,[],hW,hres _ _ _,hargs,hvars _,hb.frame _,fun h=>by cases h⟩
end Go.Proofs.YtomnpfbebimpkaaGreatDoor

namespace Go.Proofs.YtomnpfbebimpkaaGreatDoor
set_option maxRecDepth 20000
open Go.ChangeShapes Go.WideShapes Go.ChangeAt Go.RowKit
theorem cCube:Tryz.prog.cellsOf 37=24:=by kernel_rfl
section
variable {H : Type} {enc : TypeId × Value → H} {W : World} {base : Nat} {sp : Nat → Bool} {held : Bool}
def cd (a : Nat → Int) : DataW H := .agg [hd a, hd (care a)]
theorem hl_hc (a:Nat→Int):(hc a).toList=hl a:=rfl
theorem cl_split (a:Nat→Int):cl a=hl a++hl (care a):=rfl
theorem trod_cube {fuel:Nat} {cs:List Value} {x:DataW H×List MemPlace} (h:DataW.trod enc Tryz.prog W base sp held fuel 37 cs=some x):∃a:Nat→Int,cs=cl a∧x=(cd a,[])∧∀j,(Lit.int .u64 (a j)).wf=true:=by
 obtain⟨y0,y1,n,rfl,hl0,h0,h1⟩:=trod_struct2 Tryz.underlying37 h;have hlen:cs.length=24:=(by rw[hl0,cCube]);rw[cHead] at h0 h1;obtain⟨a,ea,rfl,wa⟩:=trod_head h0;obtain⟨b,eb,rfl,wb⟩:=trod_head h1;rw[hl_hc] at ea eb;have e:hl (fun j=>if j<12 then a j else b (j - 12))=hl a:=rfl;have e':hl (care fun j=>if j<12 then a j else b (j - 12))=hl b:=rfl;refine⟨fun j=>if j<12 then a j else b (j - 12),?_,rfl,fun j=>?_⟩
 ·rw[cl_split,e,e',←ea,←eb];show cs=(cs.drop 0).take 12++(cs.drop 12).take 12;rw[List.drop_zero,List.take_of_length_le (l:=cs.drop 12) (by rw[List.length_drop];omega),List.take_append_drop]
 ·show(Lit.int .u64 (if j<12 then a j else b (j - 12))).wf=true;split
  ·exact wa j
  ·exact wb _
theorem wf_of {a:Nat→Int} (h:∀j,(Lit.int .u64 (a j)).wf=true):Wf a:=fun j=>by
 have:=h j;simp only[Lit.wf,Bool.and_eq_true,decide_eq_true_eq] at this;have e:IntKind.u64.max=18446744073709551615:=(by decide);exact⟨this.1,by have:=this.2;omega⟩
end
end Go.Proofs.YtomnpfbebimpkaaGreatDoor

namespace Go.Proofs.YtomnpfbebimpkaaGreatDoor
set_option maxRecDepth 20000
open Go.ChangeShapes Go.WideShapes Go.ChangeAt Go.RowKit
section
variable {H : Type} {enc : TypeId × Value → H} {W : World} {base : Nat} {sp : Nat → Bool} {held : Bool}
theorem weightsAll_mem {P:Program} {e:TypeId}:∀{l:List (DataW H)} {d:DataW H},d∈l→∀n∈d.weights P e,n∈DataW.weightsAll P e l
 |[],_,h,_,_=>by cases h
 |d0::r,d,h,n,hn=>by
  simp only[DataW.weightsAll,List.mem_append];rcases List.mem_cons.1 h with rfl|h
  ·exact .inl hn
  ·exact .inr (weightsAll_mem h n hn)
theorem trod_kind {α:Type} (K:Kd α) (ok:K.Ok) (Wf:α→Prop) (hcells:Tryz.prog.cellsOf K.T=K.n) (helt:∀(fuel:Nat) (cs:List Value) (x:DataW H×List MemPlace),DataW.trod enc Tryz.prog W base sp held fuel K.T cs=some x→(∀n∈x.1.weights Tryz.prog K.T,n≤reachBytes)→∃a,cs=K.cells a∧Wf a) {fuel:Nat} {cs:List Value} {x:DataW H×List MemPlace} (hf:DataW.trod enc Tryz.prog W base sp held fuel K.S cs=some x) (hwt:∀n∈x.1.weights Tryz.prog K.S,n≤reachBytes):∃(q:Option Addr) (n c:Nat) (l:List α),cs=[.slice q n c]∧KLies K (.slice q n c) l W∧(∀a∈l,Wf a)∧l.length*Tryz.prog.bytesOf K.T≤reachBytes:=by
 rcases Deep.open_slice ok.under hf with⟨h0,_⟩|⟨a,len,cap,m,n,D,Pl,h0,_,hl,hm,hmm,hxe,hx⟩
 ·exact⟨none,0,0,[],h0,.inl ⟨rfl,rfl⟩,fun x hx=>(by cases hx),by simp⟩
 ·have hlm:len≤m:=(by rw[hmm];split<;>omega);have hw1:∀i,i<m→∀k∈(D i).weights Tryz.prog K.T,k≤reachBytes:=fun i hi k hk=>by
   refine hwt k ?_;rw[hxe];simp only[DataW.weights,ok.under,List.mem_cons,List.mem_append];by_cases hil:i<len
   ·exact .inr (.inl (weightsAll_mem (List.mem_map.2 ⟨i,List.mem_range.2 hil,rfl⟩) k hk))
   ·exact .inr (.inr (weightsAll_mem (List.mem_map.2 ⟨i - len,List.mem_range.2 (by omega),by simp only[show len+(i - len)=i by omega]⟩) k hk))
  have hw0:len*Tryz.prog.bytesOf K.T≤reachBytes:=(by have:=hwt ((len+(m - len))*Tryz.prog.bytesOf K.T) (by rw[hxe];simp[DataW.weights,ok.under]);exact Nat.le_trans (Nat.mul_le_mul_right _ (by omega)) this);by_cases hz:len=0
  ·subst hz;exact⟨some a,0,cap,[],h0,.inr ⟨a,cap,rfl,Nat.zero_le _,fun i x hi=>by simp at hi⟩,fun x hx=>(by cases hx),by simp⟩
  have each:∀i,i<len→∃c:α,(∀j,j<K.n→W.cell? ((a.add (i*K.n)).add j)=(K.cells c)[j]?)∧Wf c:=(by intro i hi;obtain⟨cs',h1,h2⟩:=hx i (by omega);rw[hcells] at h1;obtain⟨_,_,hcell⟩:=World.cells?_some h1;obtain⟨c,rfl,hw⟩:=helt _ _ _ h2 (hw1 i (by omega));exact⟨c,hcell,hw⟩);obtain⟨c0,_⟩:=each 0 (by omega);have hs:a.spot=none:=(by obtain⟨c,hc,_⟩:=each 0 (by omega);have q:=hc 0 ok.pos;have hp:0<(K.cells c).length:=(by rw[ok.len];exact ok.pos);have e0:(a.add (0*K.n)).add 0=a:=(by simp[Addr.add]);rw[e0,List.getElem?_eq_getElem hp] at q;exact spot_ofK q);have pick:∃f:Nat→α,∀i,i<len→(∀j,j<K.n→W.cell? ((a.add (i*K.n)).add j)=(K.cells (f i))[j]?)∧Wf (f i):=(by refine⟨fun i=>if hi:i<len then Classical.choose (each i hi) else c0,fun i hi=>?_⟩;simp only[dif_pos hi];exact Classical.choose_spec (each i hi));obtain⟨f,hf'⟩:=pick;refine⟨some a,len,cap,(List.range len).map f,h0,.inr ⟨a,cap,by simp,by simpa using hl,fun i c hi=>⟨hs,?_⟩⟩,fun x hx=>?_,by simpa using hw0⟩
  ·have hi':i<len:=(by have:=(List.getElem?_eq_some_iff.1 hi).1;simpa using this);have e:f i=c:=(by simpa [hi'] using hi);subst e;intro j u hu;have hj:j<K.n:=(by have:=(List.getElem?_eq_some_iff.1 hu).1;rwa [ok.len] at this);have q:=(hf' i hi').1 j hj;rw[hu] at q;obtain⟨bb,oo,ss⟩:=a;have e:ss=none:=hs;subst e;rw[Addr.add_mid,Addr.add_mid] at q;exact q
  ·simp only[List.mem_map,List.mem_range] at hx;obtain⟨i,hi,rfl⟩:=hx;exact(hf' i hi).2
theorem reach_le:reachBytes≤140737488355328:=by decide
theorem bytesAct:Tryz.prog.bytesOf 83=32:=by kernel_rfl
theorem cRule:Tryz.prog.cellsOf 88=32:=by kernel_rfl
theorem ruleFields:∃f0 f1 f2 f3 f4 f5 f6 f7 f8:Field,Tryz.prog.underlying 88=some (.struct #[f0,f1,f2,f3,f4,f5,f6,f7,f8])∧(f0.type=37∧f0.offset=0)∧(f1.type=3∧f1.offset=24)∧(f2.type=38∧f2.offset=25)∧(f3.type=3∧f3.offset=26)∧(f4.type=3∧f4.offset=27)∧(f5.type=3∧f5.offset=28)∧(f6.type=3∧f6.offset=29)∧(f7.type=3∧f7.offset=30)∧(f8.type=3∧f8.offset=31):=⟨_,_,_,_,_,_,_,_,_,Tryz.underlying88,⟨rfl,rfl⟩,⟨rfl,rfl⟩,⟨rfl,rfl⟩,⟨rfl,rfl⟩,⟨rfl,rfl⟩,⟨rfl,rfl⟩,⟨rfl,rfl⟩,⟨rfl,rfl⟩,⟨rfl,rfl⟩⟩
theorem drop_cons {α:Type}:∀(l:List α) (k:Nat) (x:α),(l.drop k).take 1=[x]→l.drop k=x::l.drop (k+1)
 |l,k,x,h=>by
  cases hd:l.drop k with
  |nil=>rw[hd] at h;cases h
  |cons y r=>rw[hd] at h;simp at h;subst h;have:l.drop (k+1)=(l.drop k).drop 1:=(by rw[List.drop_drop]);rw[this,hd];rfl
theorem i64_of {n:Int} (h:(Lit.int .i64 n).wf=true):I64 n:=by
 simp only[Lit.wf,Bool.and_eq_true,decide_eq_true_eq] at h;have e1:IntKind.i64.max=9223372036854775807:=(by decide);have e2:IntKind.i64.min= -9223372036854775808:=(by decide);rw[e1,e2] at h;exact h
theorem trod_rule (fuel:Nat) (cs:List Value) (x:DataW H×List MemPlace) (h:DataW.trod enc Tryz.prog W base sp held fuel 88 cs=some x) (hwt:∀n∈x.1.weights Tryz.prog 88,n≤reachBytes):∃r:Rm,cs=rcl r∧(WfR r.u∧InA r W):=by
 obtain⟨f0,f1,f2,f3,f4,f5,f6,f7,f8,hu,⟨t0,o0⟩,⟨t1,o1⟩,⟨t2,o2⟩,⟨t3,o3⟩,⟨t4,o4⟩,⟨t5,o5⟩,⟨t6,o6⟩,⟨t7,o7⟩,⟨t8,o8⟩⟩:=ruleFields;obtain⟨xs,n,_,rfl,hl,hlen,hf⟩:=DataW.trod_struct hu h;have hcs:cs.length=32:=(by rw[hl,cRule]);have cI:Tryz.prog.cellsOf 3=1:=(by kernel_rfl);have cS:Tryz.prog.cellsOf 38=1:=(by kernel_rfl);match xs,hlen with
 |[y0,y1,y2,y3,y4,y5,y6,y7,y8],_=>
  have h0:=hf 0 f0 rfl;have h1:=hf 1 f1 rfl;have h2:=hf 2 f2 rfl;have h3:=hf 3 f3 rfl;have h4:=hf 4 f4 rfl;have h5:=hf 5 f5 rfl;have h6:=hf 6 f6 rfl;have h7:=hf 7 f7 rfl;have h8:=hf 8 f8 rfl;rw[t0,o0,cCube] at h0;rw[t1,o1,cI] at h1;rw[t2,o2,cS] at h2;rw[t3,o3,cI] at h3;rw[t4,o4,cI] at h4;rw[t5,o5,cI] at h5;rw[t6,o6,cI] at h6;rw[t7,o7,cI] at h7;rw[t8,o8,cI] at h8;have hw2:∀n∈y2.1.weights Tryz.prog 38,n≤reachBytes:=fun k hk=>(by refine hwt k ?_;simp only[DataW.weights,hu];exact DataW.weights_mem_each (j:=2) (t:=38) (d:=y2.1) (by simp[t2]) (by simp) k hk);obtain⟨m,em,_,wm⟩:=trod_cube h0;obtain⟨p,e1,_,w1⟩:=DataW.trod_int Tryz.underlying3 h1;obtain⟨q,nn,c,acts,e2,hlies,hwf,hroom⟩:=trod_kind KA okA WfA cAct (fun fu c' x' h' _=>trod_act fu c' x' h') h2 hw2;obtain⟨idle,e3,_,w3⟩:=DataW.trod_int Tryz.underlying3 h3;obtain⟨hard,e4,_,w4⟩:=DataW.trod_int Tryz.underlying3 h4;obtain⟨owner,e5,_,w5⟩:=DataW.trod_int Tryz.underlying3 h5;obtain⟨hits,e6,_,w6⟩:=DataW.trod_int Tryz.underlying3 h6;obtain⟨quiet,e7,_,w7⟩:=DataW.trod_int Tryz.underlying3 h7;obtain⟨age,e8,_,w8⟩:=DataW.trod_int Tryz.underlying3 h8;refine⟨⟨⟨m,p,acts,idle,hard,owner,hits,quiet,age⟩,q,nn,c⟩,?_,⟨wf_of wm,hwf,?_,i64_of w1,i64_of w3,i64_of w4,i64_of w5,i64_of w6,i64_of w7,i64_of w8⟩,hlies⟩
  ·show cs=cl m++[_,_,_,_,_,_,_,_];rw[List.drop_zero] at em;rw[←List.take_append_drop 24 cs,em,drop_cons _ _ _ e1,drop_cons _ _ _ e2,drop_cons _ _ _ e3,drop_cons _ _ _ e4,drop_cons _ _ _ e5,drop_cons _ _ _ e6,drop_cons _ _ _ e7,drop_cons _ _ _ e8,List.drop_of_length_le (by omega)]
  ·have:=reach_le;rw[show Tryz.prog.bytesOf KA.T=32 from bytesAct] at hroom;show acts.length*32≤_;omega
theorem light_of {ts:List TypeId} {ds:List (DataW H)} (hsz:(DataW.weightsEach Tryz.prog ts ds).all (·≤reachBytes)=true) {j:Nat} {t:TypeId} {d:DataW H} (ht:ts[j]? =some t) (hd:ds[j]? =some d):∀n∈d.weights Tryz.prog t,n≤reachBytes:=fun n hn=>by
 have:=List.all_eq_true.1 hsz n (DataW.weights_mem_each ht hd n hn);simpa using this
end
end Go.Proofs.YtomnpfbebimpkaaGreatDoor
