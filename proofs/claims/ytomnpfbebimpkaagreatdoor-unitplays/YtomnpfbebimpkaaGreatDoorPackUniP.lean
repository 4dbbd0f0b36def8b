/- Several of my texts as one: UniPkt, UniTick, UniOpn, UniAns. -/
import Derived.Test.YtomnpfbebimpkaaGreatDoorPackUniK
import Derived.Test.YtomnpfbebimpkaaGreatDoorPackRule
import Derived.Test.YtomnpfbebimpkaaGreatDoorPackRef
import Derived.Test.YtomnpfbebimpkaaGreatDoorSq
import Derived.Test.YtomnpfbebimpkaaGreatDoorLapHit
import Derived.Test.YtomnpfbebimpkaaGreatDoorLapTk
import Derived.Shelf.Sort.AssemblyIn
import Derived.Test.YtomnpfbebimpkaaGreatDoorProg
import Derived.Sort.EveryDepth
import Derived.Sort.OwnSortedInts
namespace Go.Proofs.YtomnpfbebimpkaaGreatDoor
set_option maxRecDepth 20000
open Go.RowKit
def fnd (h : Nat → Int) (l : List Rm) : Option Nat := l.findIdx? fun x => hasB x.u.m h
theorem fnd_hit {h:Nat→Int} {l:List Rm} {r:Nat} {x:Rm} (hx:l[r]? =some x) (h1:hasB x.u.m h=true) (h2:∀(j:Nat) y,j<r→l[j]? =some y→hasB y.u.m h=false):fnd h l=some r:=by
 obtain⟨hlt,e⟩:=List.getElem?_eq_some_iff.1 hx;unfold fnd;rw[List.findIdx?_eq_some_iff_getElem];refine⟨hlt,by rw[e];exact h1,fun j hj=>?_⟩;have hj':j<l.length:=(by omega);simpa using h2 j _ hj (List.getElem?_eq_getElem hj')
theorem fnd_none {h:Nat→Int} {l:List Rm} (h2:∀(j:Nat) y,l[j]? =some y→hasB y.u.m h=false):fnd h l=none:=by
 unfold fnd;rw[List.findIdx?_eq_none_iff];intro x hx;obtain⟨j,hj,rfl⟩:=List.mem_iff_getElem.1 hx;exact h2 j _ (List.getElem?_eq_getElem hj)
def fndV (h : Nat → Int) (l : List Rm) : Value := .tuple #[.int .i64 (((fnd h l).getD 0 : Nat) : Int), .bool (fnd h l).isSome]
theorem fndV_some {h:Nat→Int} {l:List Rm} {r:Nat} (e:fnd h l=some r):Ending.returned (.tuple #[.int .i64 (r:Int),.bool true])= .returned (fndV h l):=by unfold fndV;rw[e];rfl
theorem fndV_none {h:Nat→Int} {l:List Rm} (e:fnd h l=none):Ending.returned (.tuple #[.int .i64 0,.bool false])= .returned (fndV h l):=by unfold fndV;rw[e];rfl
def FdS (w0 : World) (v : Value) (l : List Rm) (h : Nat → Int) (W : World) : Prop := KLies KR v l W ∧ Blk w0.heap.size (hc h) 35 W ∧ Below w0.heap.size w0 W
theorem FdS.below {w0:World} {v:Value} {l:List Rm} {h:Nat→Int} {W W':World} (hb:Below W.heap.size W W') (s:FdS w0 v l h W):FdS w0 v l h W':=⟨s.1.below okR hb,s.2.1.below hb,s.2.2.trans (hb.mono s.2.2.size)⟩
set_option maxRecDepth 100000 in
set_option maxHeartbeats 1000000 in
theorem find_any (v:Value) (l:List Rm) (h:Nat→Int) (hlen:l.length≤100000) (hw:WfRL l) (hh:Wf h) (w:World) (hl:RLies v l w) (ht:Tab w) (hz:0<w.heap.size):Calls Tryz.prog 44 #[v,.agg (hc h)] w fun e w'=>e= .returned (fndV h l)∧Below w.heap.size w w':=by
 obtain⟨p,cap,rfl⟩:=hl.1.form;have HS:=qH (show FdS w (.slice p l.length cap) l h (w.alloc (.cells (hc h) 35)) from⟨hl.1.below okR (below1 _ _),Blk.new _ _ _,below1 _ _⟩);have HW:=qH hw;have HT:=qH (fun(W:World) (hb:Below w.heap.size w W)=>(Env.start ht hz).predK W hb);have HH:=qH hh;clear hl hw ht hh;(go_enter Tryz.func44,Tryz.ntmps44);(go_wp2_with fail);go_loopg [10] l.length (fun k i wr=>∃r:Nat,r+k=l.length∧i= .int .i64 r∧(∀(j:Nat) y,j<r→l[j]? =some y→hasB y.u.m h=false)∧FdS w (.slice p l.length cap) l h wr)
 case atStart=>exact⟨0,by omega,rfl,fun j _ hj=>absurd hj (Nat.not_lt_zero _),HS.out⟩
 case round=>
  clear HS;obtain⟨r,hr,rfl,hq,hs⟩:=hrel;have HQ:=qH hq;have HS:=qH hs;clear hq hs;by_cases hlt:r<l.length
  ·have hltI:(r:Int)<(l.length:Int):=(by omega);obtain⟨x,hx⟩:=lt_some hlt;obtain⟨b,o,rfl,hrg⟩:=HS.out.1.at hx;have HR:=qH hrg;have HX:=qH hx;clear hrg hx;(go_upto_region 4 with(first|(refine wpList_load_mid rfl 88 _ rfl b (o+r*32) rfl (rcl x) _ HR.out Tryz.underlying88 rfl infoR ?_)|(refine wpList_store_row rfl 88 _ _ rfl wr.heap.size (rca x) rfl rfl 88 _ (heap_alloc_new _ _) (by kernel_rfl) rfl (rca_one _) ?_;rw[World.setRow_alloc_new])));have RX:=qH (Blk.new wr (rca x) 88).cellsR.1;have HS1:=qH (FdS.below (below1 wr (.cells (rca x) 88)) HS.out);clear HR HS;generalize wr.alloc (.cells (rca x) 88)=W at*;have HC:=qH (chas_any x.u.m h (HW.out.at HX.out).m0 (fun j=>(HH.out j).1) W (HT.out W HS1.out.2.2).1 (HT.out W HS1.out.2.2).2);have RH:=qH HS1.out.2.1;cases hsn:hasB x.u.m h
   ·rw[hsn] at HC;have HN:=qH hsn;clear hsn;(go_wp2_with(first|(refine wpList_load_mid rfl 37 _ rfl wr.heap.size 0 rfl (cl x.u.m) _ RX.out Tryz.underlying37 rfl infoCube ?_)|(refine wpList_load_row rfl 35 _ rfl w.heap.size rfl 35 (hc h) (0,0) _ RH.out Tryz.underlying35 rfl (by kernel_rfl) ?_)|(go_at_call 78;refine HC.out.mono ?_;rintro e w2 ⟨rfl,hw2⟩;refine Hid.out ?_)));have HS2:=qH (FdS.below hw2 HS1.out);clear hw2 HC RX RH HS1;refine qH ?_;(go_wp2_with fail);go_roundg (l.length - (r+1))
    case measure=>omega
    case rel=>
     refine⟨r+1,by omega,by go_num,fun j y hj hy=>?_,HS2.out⟩;by_cases e:j=r
     ·subst e;rw[HX.out] at hy;rw[←Option.some.inj hy];exact HN.out
     ·exact HQ.out j y (by omega) hy
   ·rw[hsn] at HC;have HN:=qH (fnd_hit HX.out hsn HQ.out);clear hsn;(go_wp2_with(first|(refine wpList_load_mid rfl 37 _ rfl wr.heap.size 0 rfl (cl x.u.m) _ RX.out Tryz.underlying37 rfl infoCube ?_)|(refine wpList_load_row rfl 35 _ rfl w.heap.size rfl 35 (hc h) (0,0) _ RH.out Tryz.underlying35 rfl (by kernel_rfl) ?_)|(go_at_call 78;refine HC.out.mono ?_;rintro e w2 ⟨rfl,hw2⟩;refine Hid.out ?_)));have HS2:=qH (FdS.below hw2 HS1.out);clear hw2 HC RX RH HS1;refine qH ?_;(go_wp2_with fail);(go_ret2);exact⟨fndV_some HN.out,HS2.out.2.2⟩
  ·have hltI:¬(r:Int)<(l.length:Int):=(by omega);have HN:=qH (fnd_none (h:=h) (l:=l) fun j y hj=>HQ.out j y (by have:=(List.getElem?_eq_some_iff.1 hj).1;omega) hj);(go_wp2_with fail);(go_ret2);exact⟨fndV_none HN.out,HS.out.2.2⟩
set_option maxRecDepth 100000 in
set_option maxHeartbeats 1000000 in
theorem rfind_any (v:Value) (l:List Rm) (h:Nat→Int) (hlen:l.length≤100000) (hw:WfRL l) (hh:Wf h) (w:World) (hl:RLies v l w):Calls Tryz.prog 62 #[v,.agg (hc h)] w fun e w'=>e= .returned (fndV h l)∧Below w.heap.size w w':=by
 obtain⟨p,cap,rfl⟩:=hl.1.form;have HS:=qH (show FdS w (.slice p l.length cap) l h (w.alloc (.cells (hc h) 35)) from⟨hl.1.below okR (below1 _ _),Blk.new _ _ _,below1 _ _⟩);have HW:=qH hw;have HH:=qH hh;clear hl hw hh;(go_enter Tryz.func62,Tryz.ntmps62);(go_wp2_with fail);go_loopg [6] l.length (fun k i wr=>∃r:Nat,r+k=l.length∧i= .int .i64 r∧(∀(j:Nat) y,j<r→l[j]? =some y→hasB y.u.m h=false)∧FdS w (.slice p l.length cap) l h wr)
 case atStart=>exact⟨0,by omega,rfl,fun j _ hj=>absurd hj (Nat.not_lt_zero _),HS.out⟩
 case round=>
  clear HS;obtain⟨r,hr,rfl,hq,hs⟩:=hrel;have HQ:=qH hq;have HS:=qH hs;clear hq hs;by_cases hlt:r<l.length
  ·have hltI:(r:Int)<(l.length:Int):=(by omega);obtain⟨x,hx⟩:=lt_some hlt;obtain⟨b,o,rfl,_⟩:=HS.out.1.at hx;have HX:=qH hx;clear hx;have HC:=qH (fun W=>rhas_any x.u.m h (HW.out.at HX.out).m HH.out W);obtain⟨y,hy⟩:∃y,y=hasB x.u.m h:=⟨_,rfl⟩;rw[←hy] at HC;have HYY:=qH hy;clear hy;(go_upto_region 4 with fail);refine wp_region_held_drew (S:=FdS w (.slice (some ⟨b,o,none⟩) l.length cap) l h) (by kernel_rfl) (FdS.below (Below.refl _ _).drew HS.out) (fun hS=>?_);clear HS;generalize wr.drew=W at*;refine sR 0 hS ?_;refine sR 1 hS ?_;refine sR 2 hS ?_;refine sR 3 hS ?_;refine sV 4 rfl (fun w hSw=>execRow rfl b (o+r*32) rfl (cl x.u.m) _ (cellsR_mid (hSw.1.at' HX.out)).m Tryz.underlying37 rfl infoCube) hS ?_;refine sV 5 rfl (fun w hSw=>execRow0 rfl _ rfl hSw.2.1 Tryz.underlying35 rfl (by kernel_rfl)) hS ?_;refine sC 6 (fun K hK=>?_);go_simp;refine(HC.out _).mono ?_;rintro e w1 ⟨rfl,hw1⟩;refine hK.out _ _ (FdS.below hw1 hS) (fun hS=>?_);clear hK K hw1;(try simp only[Act.put,sA,sB,sE]);refine sD ?_;have HS1:=qH hS;clear hS HC;cases y
   ·(go_wp2_with fail);go_roundg (l.length - (r+1))
    case measure=>omega
    case rel=>
     refine⟨r+1,by omega,by go_num,fun j y hj hy=>?_,HS1.out⟩;by_cases e:j=r
     ·subst e;rw[HX.out] at hy;rw[←Option.some.inj hy];exact HYY.out.symm
     ·exact HQ.out j y (by omega) hy
   ·have HN:=qH (fnd_hit HX.out HYY.out.symm HQ.out);(go_wp2_with fail);(go_ret2);exact⟨fndV_some HN.out,HS1.out.2.2⟩
  ·have hltI:¬(r:Int)<(l.length:Int):=(by omega);have HN:=qH (fnd_none (h:=h) (l:=l) fun j y hj=>HQ.out j y (by have:=(List.getElem?_eq_some_iff.1 hj).1;omega) hj);(go_wp2_with fail);(go_ret2);exact⟨fndV_none HN.out,HS.out.2.2⟩
end Go.Proofs.YtomnpfbebimpkaaGreatDoor

namespace Go.Proofs.YtomnpfbebimpkaaGreatDoor
def srtInt_ren : Go.Shelf.Ren := ⟨fun | 189 => 38 | 125 => 70 | 257 => 69 | 128 => 100 | 129 => 101 | 294 => 91 | 295 => 92 | 296 => 93 | 297 => 94 | 298 => 95 | 299 => 96 | 216 => 97 | 300 => 98 | 301 => 99 | 328 => 121 | 329 => 122 | 330 => 123 | 331 => 124 | 332 => 125 | 215 => 126 | 343 => 147 | n => n, fun | 28 => 48 | 3 => 3 | 46 => 124 | 0 => 0 | 51 => 77 | 53 => 33 | 4 => 4 | 183 => 142 | 182 => 141 | 131 => 99 | 5 => 5 | 9 => 9 | 218 => 160 | 222 => 164 | 228 => 179 | 229 => 180 | n => n, fun | n => n⟩
theorem srtInt : Go.Proofs.Lays.n189 Tryz.prog srtInt_ren := {
  mixed := by kernel_rfl
  f125 := Tryz.func70.trans (congrArg some (by kernel_rfl))
  f128 := Tryz.func100.trans (congrArg some (by kernel_rfl))
  f129 := Tryz.func101.trans (congrArg some (by kernel_rfl))
  f189 := Tryz.func38.trans (congrArg some (by kernel_rfl))
  f215 := Tryz.func126.trans (congrArg some (by kernel_rfl))
  f216 := Tryz.func97.trans (congrArg some (by kernel_rfl))
  f257 := Tryz.func69.trans (congrArg some (by kernel_rfl))
  f294 := Tryz.func91.trans (congrArg some (by kernel_rfl))
  f295 := Tryz.func92.trans (congrArg some (by kernel_rfl))
  f296 := Tryz.func93.trans (congrArg some (by kernel_rfl))
  f297 := Tryz.func94.trans (congrArg some (by kernel_rfl))
  f298 := Tryz.func95.trans (congrArg some (by kernel_rfl))
  f299 := Tryz.func96.trans (congrArg some (by kernel_rfl))
  f300 := Tryz.func98.trans (congrArg some (by kernel_rfl))
  f301 := Tryz.func99.trans (congrArg some (by kernel_rfl))
  f328 := Tryz.func121.trans (congrArg some (by kernel_rfl))
  f329 := Tryz.func122.trans (congrArg some (by kernel_rfl))
  f330 := Tryz.func123.trans (congrArg some (by kernel_rfl))
  f331 := Tryz.func124.trans (congrArg some (by kernel_rfl))
  f332 := Tryz.func125.trans (congrArg some (by kernel_rfl))
  f343 := Tryz.func147.trans (congrArg some (by kernel_rfl))
  t0 := Tryz.underlying0
  a0 := Tryz.isAgg0
  z0 := Tryz.sizeOf0
  v0 := Tryz.zeroValue0
  t3 := Tryz.underlying3
  a3 := Tryz.isAgg3
  z3 := Tryz.sizeOf3
  v3 := Tryz.zeroValue3
  t4 := Tryz.underlying4
  a4 := Tryz.isAgg4
  z4 := Tryz.sizeOf4
  v4 := Tryz.zeroValue4
  t5 := Tryz.underlying5
  a5 := Tryz.isAgg5
  z5 := Tryz.sizeOf5
  v5 := Tryz.zeroValue5
  t9 := Tryz.underlying9
  a9 := Tryz.isAgg9
  z9 := Tryz.sizeOf9
  v9 := Tryz.zeroValue9
  t28 := Tryz.underlying48
  a28 := Tryz.isAgg48
  z28 := Tryz.sizeOf48
  v28 := Tryz.zeroValue48
  t46 := Tryz.underlying124
  a46 := Tryz.isAgg124
  z46 := Tryz.sizeOf124
  v46 := Tryz.zeroValue124
  t51 := Tryz.underlying77
  a51 := Tryz.isAgg77
  z51 := Tryz.sizeOf77
  v51 := Tryz.zeroValue77
  t53 := Tryz.underlying33
  a53 := Tryz.isAgg33
  z53 := Tryz.sizeOf33
  v53 := Tryz.zeroValue33
  t131 := Tryz.underlying99
  a131 := Tryz.isAgg99
  z131 := Tryz.sizeOf99
  v131 := Tryz.zeroValue99
  t182 := Tryz.underlying141
  a182 := Tryz.isAgg141
  z182 := Tryz.sizeOf141
  v182 := Tryz.zeroValue141
  t183 := Tryz.underlying142
  a183 := Tryz.isAgg142
  z183 := Tryz.sizeOf142
  v183 := Tryz.zeroValue142
  t218 := Tryz.underlying160
  a218 := Tryz.isAgg160
  z218 := Tryz.sizeOf160
  v218 := Tryz.zeroValue160
  t222 := Tryz.underlying164
  a222 := Tryz.isAgg164
  z222 := Tryz.sizeOf164
  v222 := Tryz.zeroValue164
  t228 := Tryz.underlying179
  a228 := Tryz.isAgg179
  z228 := Tryz.sizeOf179
  v228 := Tryz.zeroValue179
  t229 := Tryz.underlying180
  a229 := Tryz.isAgg180
  z229 := Tryz.sizeOf180
  v229 := Tryz.zeroValue180 }
end Go.Proofs.YtomnpfbebimpkaaGreatDoor

/-
  Packet: a packet comes to a unit.
-/
namespace Go.Proofs.YtomnpfbebimpkaaGreatDoor
set_option maxRecDepth 20000
open Go.RowKit
def hpl (x : Hp) : List Value := [.int .i64 0, .int .i64 x.port] ++ (hl x.head ++ ([.bool x.hit, .int .i64 x.prio] ++ cl x.m))
def hpa (x : Hp) : Array Value := (hpl x).toArray
theorem hpa_size (x:Hp):(hpa x).size=40:=by simp[hpa,hpl,hl,cl]
theorem hpa_zero:(#[.int .i64 0,.int .i64 0,.int .u64 0,.int .u64 0,.int .u64 0,.int .u64 0,.int .u64 0,.int .u64 0,.int .u64 0,.int .u64 0,.int .u64 0,.int .u64 0,.int .u64 0,.int .u64 0,Value.bool false,.int .i64 0,.int .u64 0,.int .u64 0,.int .u64 0,.int .u64 0,.int .u64 0,.int .u64 0,.int .u64 0,.int .u64 0,.int .u64 0,.int .u64 0,.int .u64 0,.int .u64 0,.int .u64 0,.int .u64 0,.int .u64 0,.int .u64 0,.int .u64 0,.int .u64 0,.int .u64 0,.int .u64 0,.int .u64 0,.int .u64 0,.int .u64 0,.int .u64 0]:Array Value)=hpa zHp:=by kernel_rfl
theorem hpa_one (x:Hp):(hpa x).all (·.oneCell')=true:=by simp[hpa,hpl,hl,cl,Value.oneCell']
theorem infoHp:(Tryz.prog.info? 60).map (·.size)=some 40:=by kernel_rfl
theorem infoHc:(Tryz.prog.info? 35).map (·.size)=some 12:=by kernel_rfl
theorem infoU64c:(Tryz.prog.info? 33).map (·.size)=some 1:=by kernel_rfl
theorem hpa_hit (p:Int) (h m:Nat→Int) (k:Int):(hpa ⟨p,h,false,k,m⟩).setIfInBounds 14 (.bool true)=hpa ⟨p,h,true,k,m⟩:=by
 apply Array.ext';simp[hpa,hpl,hl]
theorem hpa_prio (p:Int) (h m:Nat→Int) (k:Int):(hpa ⟨p,h,true,0,m⟩).setIfInBounds 15 (.int .i64 k)=hpa ⟨p,h,true,k,m⟩:=by
 apply Array.ext';simp[hpa,hpl,hl]
theorem hpa_rule {b:Nat} {p k:Int} {h m:Nat→Int} {W:World} (hb:Blk b (hpa ⟨p,h,true,k,fun _=>0⟩) 60 W):Blk b (hpa ⟨p,h,true,k,m⟩) 60 (W.setCells b 16 (cl m).toArray.toList):=by
 have h1:=heap_stM (g:=b) (cl m) 16 W _ hb;have e:stM (hpa ⟨p,h,true,k,fun _=>0⟩) 16 (cl m)=hpa ⟨p,h,true,k,m⟩:=(by kernel_rfl);rw[e] at h1;exact h1
theorem hc_upd (h:Nat→Int) (p:Int):(hc h).setIfInBounds 0 (.int .u64 p)=hc (inH p h):=by kernel_rfl
theorem builtEd (p:Int):Tryz.prog.built 58 [(1,.int .i64 p)]=some #[.int .i64 0,.int .i64 p]:=by kernel_rfl
theorem builtHp (p:Int) (h:Nat→Int):Tryz.prog.built 60 [(0,.agg #[.int .i64 0,.int .i64 p]),(1,.agg (hc h))]=some (hpa ⟨p,h,false,0,fun _=>0⟩):=by kernel_rfl
theorem builtHp0:Tryz.prog.built 60 []=some (hpa zHp):=by kernel_rfl
theorem buildEd {ops:Array Oper} {rest:List Oper} {o:Oper} {a:Act} {w:World} {Q:Exit→Act→World→Prop} (hg:o.guard=none) (x:Operand) (ho:o.op= .build 58 #[(1,x)]) (p:Int) (hx:a.eval x= .int .i64 p) (k:wpList Tryz.prog ops Q rest (a.put o.dst (.agg #[.int .i64 0,.int .i64 p])) w):wpList Tryz.prog ops Q (o::rest) a w:=by
 have e:((#[(1,x)]:Array (Nat×Operand)).map fun(p:Nat×Operand)=>(p.1,a.eval p.2)).toList=[(1,.int .i64 p)]:=(by simp[hx]);have e':=congrArg (Tryz.prog.built 58) e;rw[builtEd] at e';refine wpList_build hg 58 _ ho (by rw[e'];rfl) ?_;rw[e'];exact k
theorem buildHp {ops:Array Oper} {rest:List Oper} {o:Oper} {a:Act} {w:World} {Q:Exit→Act→World→Prop} (hg:o.guard=none) (x y:Operand) (ho:o.op= .build 60 #[(0,x),(1,y)]) (p:Int) (h:Nat→Int) (hx:a.eval x= .agg #[.int .i64 0,.int .i64 p]) (hy:a.eval y= .agg (hc h)) (k:wpList Tryz.prog ops Q rest (a.put o.dst (.agg (hpa ⟨p,h,false,0,fun _=>0⟩))) w):wpList Tryz.prog ops Q (o::rest) a w:=by
 have e:((#[(0,x),(1,y)]:Array (Nat×Operand)).map fun(p:Nat×Operand)=>(p.1,a.eval p.2)).toList=[(0,.agg #[.int .i64 0,.int .i64 p]),(1,.agg (hc h))]:=(by simp[hx,hy]);have e':=congrArg (Tryz.prog.built 60) e;rw[builtHp] at e';refine wpList_build hg 60 _ ho (by rw[e'];rfl) ?_;rw[e'];exact k
theorem buildHp0 {ops:Array Oper} {rest:List Oper} {o:Oper} {a:Act} {w:World} {Q:Exit→Act→World→Prop} (hg:o.guard=none) (ho:o.op= .build 60 #[]) (k:wpList Tryz.prog ops Q rest (a.put o.dst (.agg (hpa zHp))) w):wpList Tryz.prog ops Q (o::rest) a w:=by
 have e:((#[]:Array (Nat×Operand)).map fun(p:Nat×Operand)=>(p.1,a.eval p.2)).toList=[]:=(by simp);have e':=congrArg (Tryz.prog.built 60) e;rw[builtHp0] at e';refine wpList_build hg 60 _ ho (by rw[e'];rfl) ?_;rw[e'];exact k
def pkG (p : Int) (h : Nat → Int) : Gm := ⟨8, 0, 0, zMm, p, h, none, 0, 0, []⟩
theorem builtPk (p:Int) (h:Nat→Int):Tryz.prog.built 42 [(0,.int .i64 8),(4,.int .i64 p),(5,.agg (hc h))]=some (gca (pkG p h)):=by kernel_rfl
theorem buildPk {ops:Array Oper} {rest:List Oper} {o:Oper} {a:Act} {w:World} {Q:Exit→Act→World→Prop} (hg:o.guard=none) (x y z:Operand) (ho:o.op= .build 42 #[(0,x),(4,y),(5,z)]) (p:Int) (h:Nat→Int) (hx:a.eval x= .int .i64 8) (hy:a.eval y= .int .i64 p) (hz:a.eval z= .agg (hc h)) (k:wpList Tryz.prog ops Q rest (a.put o.dst (.agg (gca (pkG p h)))) w):wpList Tryz.prog ops Q (o::rest) a w:=by
 have e:((#[(0,x),(4,y),(5,z)]:Array (Nat×Operand)).map fun(p:Nat×Operand)=>(p.1,a.eval p.2)).toList=[(0,.int .i64 8),(4,.int .i64 p),(5,.agg (hc h))]:=(by simp[hx,hy,hz]);have e':=congrArg (Tryz.prog.built 42) e;rw[builtPk] at e';refine wpList_build hg 42 _ ho (by rw[e'];rfl) ?_;rw[e'];exact k
theorem hF_view {n:Nat} {x:Um} (h:FitM n x):WfUL x.un.view:=h.fit.view
theorem fnd_map (h:Nat→Int) (l:List Rm):fnd h l=fndU h (l.map (·.u)):=by
 unfold fnd fndU;rw[List.findIdx?_map];rfl
theorem rangeOther {M:List Nat} {b o:Nat} {cs:List Value} {W W':World} (k:Fr M W W') (h:W.rangeAt b o cs) (hn:b∉M):W'.rangeAt b o cs:=fun j u hu=>
 (World.cell?_of_block (a:=⟨b,o+j,none⟩) (k.keep b (World.block_lt_of_cell? _ _ (h j u hu)) hn)).trans (h j u hu)
def PktRet (x : Um) (B : Nat) (port : Int) (h : Nat → Int) (w : World) (e : Ending) (w' : World) : Prop :=
  ∃ (x' : Um) (vs va : Value) (gs : List Gm), e = .returned (.tuple #[vs, va, .agg (hpa (pktH x.un port h))]) ∧ KOwns KS w.heap.size vs (pktL x.un port h) w' ∧ gs.map (·.u) = pktA x.un port h ∧ AnsL w.heap.size va gs w' ∧
    x'.un = pktS x.un port h ∧ UniA B x' w' ∧ x'.p = x.p ∧ UFr x x' w w'
theorem res_ttc {fn:Func} {a b p:Tmp} {ty:TypeId} (h:fn.results=#[.tmp a,.tmp b,.cell p ty]) {tmps:Array Value} {P:Program} {w:World} {g:Nat} {t:TypeId} {cs:Array Value} {d:TypeDesc} {x y:Value} (ha:tmps.getD a undef=x) (hb:tmps.getD b undef=y) (hp:tmps.getD p undef= .pointer (some ⟨g,0,none⟩)) (hg:Blk g cs t w) (hu:P.underlying ty=some d) (hd:d.isRow=true) (hi:(P.info? ty).map (·.size)=some cs.size):(results fn tmps).run P w= .ok (.tuple #[x,y,.agg cs]) w:=by
 have e:=run_loadVar_row (P:=P) w g t ty cs (0,0) d hg hu (by cases d<;>first|rfl|(simp[TypeDesc.isRow] at hd)) hi;simp only[results,h];rw[Array.getD_eq_getD_getElem?] at ha hb hp;simp[ha,hb,hp,asAddr,e]
set_option maxHeartbeats 2000000 in
set_option maxRecDepth 100000 in
theorem un_pkt_bad (x:Um) (B:Nat) (port:Int) (hp:portB port=false) (h:Nat→Int) (w:World) (hU:UniA B x w):Calls Tryz.prog 20 #[.pointer (some ⟨x.p,0,none⟩),.int .i64 port,.agg (hc h)] w (PktRet x B port h w):=by
 have HP:=qH hp;have HB:=qH (show Below w.heap.size w ((w.alloc (.cells (hc h) 35)).alloc (.cells (hpa zHp) 60)) from(below1 w _).trans ((below1 _ _).mono (below1 w _).size));have R8:=qH (Blk.new2 w (.cells (hc h) 35) (hpa zHp) 60);have HU0:=qH hU;have hz:=hpa_zero;clear hU hp;by_cases h1:port<1
 ·have d1:decide (port<1)=true:=decide_eq_true h1;(go_enter Tryz.func20,Tryz.ntmps20);(go_upto_region 2 with fail);generalize hW:(w.alloc (.cells (hc h) 35)).alloc (.cells (hpa zHp) 60)=W at*;clear hW;(go_wp2_with(first|(refine buildHp0 rfl rfl ?_)|(refine wpList_store_row rfl 60 _ _ rfl (w.heap.size+1) (hpa zHp) rfl rfl 60 (hpa zHp) R8.out (by kernel_rfl) rfl (hpa_one _) ?_)));refine bodyPost_ret (v:= .tuple #[.slice none 0 0,.slice none 0 0,.agg (hpa zHp)]) ?_ rfl ?_
  ·exact res_ttc Tryz.results20 rfl rfl rfl (R8.out.rset _) Tryz.underlying60 rfl (by rw[hpa_size];exact infoHp)
  ·have HB2:=below_setRow HB.out (show w.heap.size≤w.heap.size+1 by omega) (hpa zHp);exact⟨x,_,_,[],by unfold pktH;rw[if_pos HP.out],by unfold pktL;rw[if_pos HP.out];exact KOwns.nil _ _,by unfold pktA;rw[if_pos HP.out];rfl,AnsL.nil _ _,by unfold pktS;rw[if_pos HP.out],HU0.out.below HB2,rfl,UFr.of x HB2⟩
 ·have h2:16<port:=(by have:=HP.out;unfold portB at this;rw[show decide (1≤port)=true by simp;omega,Bool.true_and] at this;simpa using this);have d1:decide (port<1)=false:=decide_eq_false h1;have d2:decide (16<port)=true:=decide_eq_true h2;have d3:decide (port > 16)=true:=decide_eq_true h2;(go_enter Tryz.func20,Tryz.ntmps20);(go_upto_region 2 with fail);generalize hW:(w.alloc (.cells (hc h) 35)).alloc (.cells (hpa zHp) 60)=W at*;clear hW;(go_wp2_with(first|(refine buildHp0 rfl rfl ?_)|(refine wpList_store_row rfl 60 _ _ rfl (w.heap.size+1) (hpa zHp) rfl rfl 60 (hpa zHp) R8.out (by kernel_rfl) rfl (hpa_one _) ?_)));refine bodyPost_ret (v:= .tuple #[.slice none 0 0,.slice none 0 0,.agg (hpa zHp)]) ?_ rfl ?_
  ·exact res_ttc Tryz.results20 rfl rfl rfl (R8.out.rset _) Tryz.underlying60 rfl (by rw[hpa_size];exact infoHp)
  ·have HB2:=below_setRow HB.out (show w.heap.size≤w.heap.size+1 by omega) (hpa zHp);exact⟨x,_,_,[],by unfold pktH;rw[if_pos HP.out],by unfold pktL;rw[if_pos HP.out];exact KOwns.nil _ _,by unfold pktA;rw[if_pos HP.out];rfl,AnsL.nil _ _,by unfold pktS;rw[if_pos HP.out],HU0.out.below HB2,rfl,UFr.of x HB2⟩
set_option maxHeartbeats 4000000 in
set_option maxRecDepth 100000 in
theorem un_pkt_ok (x:Um) (B k:Nat) (hF:FitM k x) (port:Int) (hp:portB port=true) (h:Nat→Int) (hh:Wf (inH port h)) (w:World) (hU:UniA B x w) (ht:Tab w) (hz:0<B):Calls Tryz.prog 20 #[.pointer (some ⟨x.p,0,none⟩),.int .i64 port,.agg (hc h)] w (PktRet x B port h w):=by
 have HPB:=qH hp;have hp1:1≤port:=(by unfold portB at hp;simp at hp;exact hp.1);have hp2:port≤16:=(by unfold portB at hp;simp at hp;exact hp.2);have HB:=qH (show Below w.heap.size w ((w.alloc (.cells (hc h) 35)).alloc (.cells (hpa zHp) 60)) from(below1 w _).trans ((below1 _ _).mono (below1 w _).size));have R5:=qH ((Blk.new w (hc h) 35).below (below1 _ (.cells (hpa zHp) 60)));have R8:=qH (Blk.new2 w (.cells (hc h) 35) (hpa zHp) 60);have HU0:=qH hU;have HBW:=qH (show B≤w.heap.size by have:=hU.lt;have:=hU.ge;omega);have HN5:=qH (show w.heap.size∉x.muts from fun hm=>by have:=hU.muts.lt _ hm;omega);have HN8:=qH (show w.heap.size+1∉x.muts from fun hm=>by have:=hU.muts.lt _ hm;omega);have HF:=qH hF;have HH:=qH hh;have HT:=qH ht;have HZ:=qH hz;have hzz:=hpa_zero;have d1:decide (port<1)=false:=decide_eq_false (by omega);have d2:decide (16<port)=false:=decide_eq_false (by omega);have d3:decide (port > 16)=false:=decide_eq_false (by omega);have e1:IntKind.u64.wrap port=port:=(by rw[IntKind.wrap_u64];omega);have e2:port % 18446744073709551616=port:=(by omega);clear hU hF hh ht hz hp;obtain⟨hd,hhd⟩:∃hd,hd=inH port h:=⟨_,rfl⟩;have HHD:=qH hhd;rw[←hhd] at HH;clear hhd;obtain⟨b5,hb5⟩:∃b5,b5=w.heap.size:=⟨_,rfl⟩;obtain⟨b8,hb8⟩:∃b8,b8=w.heap.size+1:=⟨_,rfl⟩;have HB58:=qH (And.intro hb5 hb8);(go_enter Tryz.func20,Tryz.ntmps20);(go_upto_region 3 with fail);rw[←hb8,←hb5];rw[←hb8] at R8 HN8;rw[←hb5] at R5 HN5;clear hb5 hb8 hzz;generalize hW:(w.alloc (.cells (hc h) 35)).alloc (.cells (hpa zHp) 60)=V0 at*;clear hW;have HTH:=qH (show V0.there b5 0 1 from R5.out.there (by show 1≤12;decide));(go_upto_region 4 with(refine storeCell rfl 33 _ _ rfl b5 0 (.int .u64 port) rfl rfl rfl HTH.out infoU64c ?_;refine Hid.out ?_));have R5b:=qH (show Blk b5 (hc hd) 35 (V0.setCell ⟨b5,0,none⟩ (.int .u64 port)) by have h:=R5.out.one (k:=0) (.int .u64 port);rw[hc_upd,←HHD.out] at h;exact h);have R8b:=qH (show Blk b8 (hpa zHp) 60 (V0.setCell ⟨b5,0,none⟩ (.int .u64 port)) from(heap_setCell_other _ _ _ _ (show b8≠b5 by have:=HB58.out;omega)).trans R8.out);have HB1:=qH (HB.out.setCell (p:=⟨b5,0,none⟩) (show w.heap.size≤b5 by have:=HB58.out.1;omega) (.int .u64 port));clear HTH R5 R8 HB e1 e2;generalize V0.setCell ⟨b5,0,none⟩ (.int .u64 port)=V1 at*;refine qH ?_;(go_upto_region 6 with(first|(refine buildEd rfl _ rfl port rfl ?_)|(refine wpList_load_row rfl 35 _ rfl b5 rfl 35 (hc hd) (0,0) _ R5b.out Tryz.underlying35 rfl infoHc ?_)|(refine buildHp rfl _ _ rfl port hd rfl rfl ?_)|(refine wpList_store_row rfl 60 _ _ rfl b8 (hpa ⟨port,hd,false,0,fun _=>0⟩) rfl rfl 60 (hpa zHp) R8b.out (by kernel_rfl) rfl (hpa_one _) ?_)));have R5c:=qH (show Blk b5 (hc hd) 35 (V1.setRow b8 (hpa ⟨port,hd,false,0,fun _=>0⟩)) from(setRow_other _ _ _ _ (show b5≠b8 by have:=HB58.out;omega)).trans R5b.out);have R8c:=qH (R8b.out.rset (hpa ⟨port,hd,false,0,fun _=>0⟩));have HB2:=qH (below_setRow HB1.out (show w.heap.size≤b8 by have:=HB58.out.2;omega) (hpa ⟨port,hd,false,0,fun _=>0⟩));clear R5b R8b HB1;generalize V1.setRow b8 (hpa ⟨port,hd,false,0,fun _=>0⟩)=V2 at*;have HT2:=qH (Env.at_ HT.out HZ.out (HB2.out.mono HBW.out) HBW.out);have HU2:=qH (HU0.out.below HB2.out);have HVW:=qH (un_view x B k HF.out V2 HU2.out HT2.out.1 HT2.out.2);(go_upto_region 7 with(go_at_call 36;refine HVW.out.mono ?_;rintro e V3 ⟨vv,Lv,rfl,huv,hov,hv3⟩;refine Hid.out ?_));have HUV:=qH huv;have HOV:=qH hov;have HB3:=qH (HB2.out.trans (hv3.mono HB2.out.size));have R5d:=qH (R5c.out.below hv3);have R8d:=qH (R8c.out.below hv3);have HT3:=qH (Env.at_ HT.out HZ.out (HB3.out.mono HBW.out) HBW.out);have HWV:=qH (show WfRL Lv from(hF_view HF.out).rl huv);have HLV:=qH (show Lv.length≤9000 by have h1:=congrArg List.length huv;have h2:=HF.out.fit.view_len;have h3:=HF.out.n;rw[List.length_map] at h1;omega);obtain⟨fi,hfi⟩:∃fi:Nat,fi=(fnd hd Lv).getD 0:=⟨_,rfl⟩;obtain⟨fb,hfb⟩:∃fb:Bool,fb=(fnd hd Lv).isSome:=⟨_,rfl⟩;have HFI:=qH (And.intro hfi hfb);have HFV:=qH (show Calls Tryz.prog 44 #[vv,.agg (hc hd)] V3 fun e w'=>e= .returned (.tuple #[.int .i64 (fi:Int),.bool fb])∧Below V3.heap.size V3 w' by rw[hfi,hfb];exact find_any vv Lv hd (by have:=HLV.out;omega) HWV.out HH.out V3 hov.lies HT3.out.1 HT3.out.2);clear hfi hfb huv hov hv3 R5c R8c HB2 HT2 HU2 HVW;refine qH ?_;(go_upto_if 41 with(first|(refine wpList_load_row rfl 35 _ rfl b5 rfl 35 (hc hd) (0,0) _ R5d.out Tryz.underlying35 rfl infoHc ?_)|(go_at_call 44;refine HFV.out.mono ?_;rintro e V4 ⟨rfl,hv4⟩)));have HB4:=qH (HB3.out.trans (hv4.mono HB3.out.size));have R5e:=qH (R5d.out.below hv4);have R8e:=qH (R8d.out.below hv4);have HOE:=qH (HOV.out.below hv4);clear hv4 R5d R8d HB3 HT3 HFV HOV;go_cut [6,9] (fun s6 s9 W=>s9= .bool (pktT x.un port h)∧KOwns KS w.heap.size s6 (pktL x.un port h) W∧Blk b5 (hc hd) 35 W∧Blk b8 (hpa (pktH x.un port h)) 60 W∧Below w.heap.size w W)
 case first=>
  cases fb
  ·have HNO:=qH (show fndU (inH port h) x.un.view=none by
    rw[←HHD.out,←HUV.out,←fnd_map];have:=HFI.out.2;cases hq:fnd hd Lv with
    |none=>rfl
    |some j=>rw[hq] at this;cases this)
   (go_wp2_with fail);go_meet
   case rel=>refine⟨by unfold pktT;rw[HNO.out],by unfold pktL;rw[if_neg (by rw[HPB.out];decide),HNO.out];exact KOwns.nil _ _,R5e.out,?_,HB4.out⟩;unfold pktH;rw[if_neg (by rw[HPB.out];decide),HNO.out,←HHD.out];exact R8e.out
  ·have HYE:=qH (show fnd hd Lv=some fi by
    have h1:=HFI.out.1;have h2:=HFI.out.2;cases hq:fnd hd Lv with
    |none=>rw[hq] at h2;cases h2
    |some j=>rw[hq] at h1;rw[h1];rfl)
   obtain⟨i,hi⟩:∃i,i=fi:=⟨_,rfl⟩;subst hi;have hlt:i<Lv.length:=(by have:=HYE.out;unfold fnd at this;rw[List.findIdx?_eq_some_iff_getElem] at this;exact this.1);obtain⟨y,hy⟩:=lt_some hlt;have HY:=qH hy;have HSM:=qH (show fndU (inH port h) x.un.view=some i by rw[←HHD.out,←HUV.out,←fnd_map];exact HYE.out);have HRU:=qH (show ruAt x.un.view i=y.u by unfold ruAt;rw[←HUV.out,List.getElem?_map,hy];rfl);rcases HOE.out.1.kat okR with⟨_,h0⟩|⟨gv,cp,hvv,hgv,hA⟩
   ·rw[h0] at hlt;exact absurd hlt (Nat.not_lt_zero _)
   subst hvv;have HA:=qH (hA.range hy);have HTG:=qH (HOE.out.1.typ (show(Value.slice (some ⟨gv,0,none⟩) Lv.length cp).ownBlock=some gv from rfl));have HNE:=qH (show gv∉[b8] from fun hm=>by simp only[List.mem_cons,List.not_mem_nil,or_false] at hm;subst hm;exact Typ.ne HTG.out R8e.out.typ (by decide) rfl);obtain⟨ln,hln⟩:∃ln,ln=Lv.length:=⟨_,rfl⟩;rw[←hln] at hlt;have hltI:(i:Int)<(ln:Int):=(by omega);have hiB:(i:Int)≤9000:=(by have:=HLV.out;omega);have HLN:=qH hln;rw[←hln];clear hln hy hA hgv;(go_upto_region 9 with fail);have RB:=qH (show Blk b8 (hpa ⟨port,hd,false,0,fun _=>0⟩) 60 V4.drew from R8e.out.drew);have HDW:=qH (show Below V4.heap.size V4 V4.drew from(Below.refl _ _).drew);have R5f:=qH (R5e.out.below HDW.out);have HB5:=qH (HB4.out.trans (HDW.out.mono HB4.out.size));have HOF:=qH (HOE.out.below HDW.out);refine wp_region_held_drew (S:=fun W'=>W'.rangeAt gv (i*32) (rcl y)) (by kernel_rfl) (show V4.drew.rangeAt gv (i*32) (rcl y) from HA.out) (fun hS=>?_);clear HDW R8e HA HOE R5e HB4;generalize V4.drew=W at*;refine sR 0 hS ?_;refine sR 1 hS ?_;refine sR 2 hS ?_;refine sR 3 hS ?_;refine sV 4 rfl (fun w hSw=>(by have c:=(cellsR_mid hSw).p;go_simp<;>with_reducible rfl)) hS ?_;refine sR 5 hS ?_;refine sR 6 hS ?_;refine sR 7 hS ?_;refine sR 8 hS ?_;refine sV 9 rfl (fun w hSw=>(show(execOp _ _).run _ w= .ok (.value (.agg (cl y.u.m).toArray)) w from execRow rfl gv (i*32) rfl (cl y.u.m) _ (cellsR_mid hSw).m Tryz.underlying37 rfl infoCube)) hS ?_;refine sR 10 hS ?_;refine sC 11 (fun K hK=>?_);have HTH:=qH (show W.there b8 14 1 from RB.out.there (by rw[hpa_size];decide));refine stWp 4 _ _ rfl b8 14 (.bool true) rfl rfl rfl HTH.out infoBool ?_;have RB1:=qH (show Blk b8 (hpa ⟨port,hd,true,0,fun _=>0⟩) 60 (W.setCell ⟨b8,14,none⟩ (.bool true)) by have h:=RB.out.one (k:=14) (.bool true);rw[hpa_hit] at h;exact h);have HF1:=qH (Fr.cell W ⟨b8,14,none⟩ (.bool true) (M:=[b8]) (by simp));refine hK.out _ _ (rangeOther HF1.out hS HNE.out) (fun hS=>?_);clear hK K HTH;generalize hW1:W.setCell ⟨b8,14,none⟩ (.bool true)=W1 at*;clear hW1;(try simp only[Act.put]);refine sR 12 hS ?_;refine sC 13 (fun K hK=>?_);have HTH:=qH (show W1.there b8 15 1 from RB1.out.there (by rw[hpa_size];decide));refine stWp 3 _ _ rfl b8 15 (.int .i64 y.u.p) rfl rfl rfl HTH.out infoInt0 ?_;have RB2:=qH (show Blk b8 (hpa ⟨port,hd,true,y.u.p,fun _=>0⟩) 60 (W1.setCell ⟨b8,15,none⟩ (.int .i64 y.u.p)) by have h:=RB1.out.one (k:=15) (.int .i64 y.u.p);rw[hpa_prio] at h;exact h);have HF2:=qH (Fr.cell W1 ⟨b8,15,none⟩ (.int .i64 y.u.p) (M:=[b8]) (by simp));refine hK.out _ _ (rangeOther HF2.out hS HNE.out) (fun hS=>?_);clear hK K HTH;generalize hW2:W1.setCell ⟨b8,15,none⟩ (.int .i64 y.u.p)=W2 at*;clear hW2;(try simp only[Act.put]);refine sR 14 hS ?_;refine sC 15 (fun K hK=>?_);have HTH:=qH (show W2.there b8 16 (cl y.u.m).toArray.size from RB2.out.there (by rw[hpa_size];simp[cl]));refine wp_store_mid 37 _ _ rfl b8 16 (cl y.u.m).toArray rfl rfl HTH.out (by kernel_rfl) (by simp[cl,Value.oneCell']) ?_;have RB3:=qH (hpa_rule (m:=y.u.m) RB2.out);have HF3:=qH (show Fr [b8] W2 (W2.setCells b8 16 (cl y.u.m).toArray.toList) from Fr.grown (grown_stM _ _ _) fun k hk=>by injection hk with hk;subst hk;simp);refine hK.out _ _ (rangeOther HF3.out hS HNE.out) (fun hS=>?_);clear hK K HTH;generalize hW3:W2.setCells b8 16 (cl y.u.m).toArray.toList=W3 at*;clear hW3;(try simp only[Act.put]);refine sD ?_;clear hS;have HF3f:=qH (show Fr [b8] W W3 from(HF1.out.tr HF2.out).tr HF3.out);have HB6:=qH (show Below w.heap.size w W3 from HB5.out.trans (HF3f.out.below (B:=w.heap.size) (fun g hg=>by simp only[List.mem_cons,List.not_mem_nil,or_false] at hg;have:=HB58.out.2;omega) HB5.out.size (Below.refl _ _)));have R5g:=qH (HF3f.out.blk R5f.out (fun hm=>by simp only[List.mem_cons,List.not_mem_nil,or_false] at hm;have:=HB58.out;omega));have HAA:=qH (rangeOther HF3f.out ((show KAt KR gv cp Lv W from(KOwns.kat okR HOF.out.1).elim (fun q=>by cases q.1) (fun⟨g',c',e,_,hA⟩=>by injection e with e1 _ e3;injection e1 with e1;injection e1 with e1;subst e1;subst e3;exact hA)).range HY.out) HNE.out);have HAY0:=qH (show OwnA B y W3 from HF3f.out.owns (HOF.out.2 y (List.mem_of_getElem? HY.out)) fun g hg hm=>by simp only[List.mem_cons,List.not_mem_nil,or_false] at hm;subst hm;exact Typ.ne ((HOF.out.2 y (List.mem_of_getElem? HY.out)).typ hg) RB.out.typ (by decide) rfl);have HWY:=qH (HWV.out.at HY.out);clear HF1 HF2 HF3 RB RB1 RB2 HOF R5f HB5 HF3f;(go_upto_region 10 with fail);have HDW:=qH (show Below W3.heap.size W3 W3.drew from(Below.refl _ _).drew);have HB7:=qH (HB6.out.trans (HDW.out.mono HB6.out.size));have HAY:=qH ((HAY0.out.below HDW.out).inA);have HE5:=qH (Env.at_ HT.out HZ.out (HB7.out.mono HBW.out) HBW.out);have RB3d:=qH (RB3.out.below HDW.out);refine wp_region_held_drew (S:=fun W'=>W'.rangeAt gv (i*32) (rcl y)∧Blk b5 (hc hd) 35 W') (by kernel_rfl) ⟨show W3.drew.rangeAt gv (i*32) (rcl y) from HAA.out,R5g.out.below HDW.out⟩ (fun hS=>?_);clear HDW HAA HAY0 R5g RB3 HB6;generalize W3.drew=W5 at*;refine sR 0 hS ?_;refine sR 1 hS ?_;refine sR 2 hS ?_;refine sR 3 hS ?_;refine sV 4 rfl (fun w hSw=>(by have c:=(cellsR_mid hSw.1).s;go_simp<;>with_reducible rfl)) hS ?_;refine sV 5 rfl (fun w hSw=>(show(execOp _ _).run _ w= .ok (.value (.agg (hc hd))) w from execRow0 rfl b5 rfl hSw.2 Tryz.underlying35 rfl infoHc)) hS ?_;refine sC 6 (fun K hK=>?_);go_simp;refine(run_any (.slice y.q y.n y.c) y.u.acts hd HWY.out.len HWY.out.a W5 HAY.out HE5.out.1 HE5.out.2).mono ?_;rintro e W6 ⟨vs,rfl,hso,hw6⟩;obtain⟨ps,cps,es⟩:=hso.form;subst es;have HSO:=qH hso;have HB6:=qH hw6;refine hK.out _ _ ⟨fun j u hu=>(hw6.cell (p:=⟨gv,i*32+j,none⟩) (World.block_lt_of_cell? _ _ (hS.1 j u hu))).trans (hS.1 j u hu),hS.2.below hw6⟩ (fun hS=>?_);clear hK K hso hw6;(try simp only[Act.put,sA,sB,sE]);refine sR 7 hS ?_;refine sR 8 hS ?_;refine sR 9 hS ?_;refine sR 10 hS ?_;refine sR 11 hS ?_;refine sD ?_;have R5h:=qH hS.2;have RB4:=qH (RB3d.out.below HB6.out);have HB8:=qH (HB7.out.trans (HB6.out.mono HB7.out.size));clear hS RB3d;(go_wp2_with fail);have eln:=HLN.out;subst eln;go_meet
   case rel=>
    refine⟨by unfold pktT;rw[HSM.out];show _=Value.bool (runB (ruAt x.un.view i).acts);rw[HRU.out],?_,R5h.out,?_,HB8.out⟩
    ·unfold pktL;rw[if_neg (by rw[HPB.out];decide),HSM.out];show KOwns KS w.heap.size _ (runV (ruAt x.un.view i).acts (inH port h)) _;rw[HRU.out,←HHD.out];exact HSO.out.mono HB7.out.size
    ·unfold pktH;rw[if_neg (by rw[HPB.out];decide),HSM.out];show Blk b8 (hpa ⟨port,inH port h,true,(ruAt x.un.view i).p,(ruAt x.un.view i).m⟩) 60 _;rw[HRU.out,←HHD.out];exact RB4.out
 case rest=>
 clear R5e R8e HOE HB4 HFI HLV HWV HUV;obtain⟨rfl,hks,h5,h8,hbc⟩:=hcut;have HKS:=qH hks;have H5:=qH h5;have H8:=qH h8;have HBC:=qH hbc;clear hks h5 h8 hbc;obtain⟨tb,htb⟩:∃tb,tb=pktT x.un port h:=⟨_,rfl⟩;have HTB:=qH htb;rw[←htb];clear htb;obtain⟨HP,hHP⟩:∃HP,HP=pktH x.un port h:=⟨_,rfl⟩;have HHP:=qH hHP;rw[←hHP] at H8;clear hHP;obtain⟨pb,cb,hvb⟩:=HU0.out.base.1.form;have HVB:=qH hvb;have HWB:=qH HF.out.wfR;have hlb:x.L.length≤9000:=(by have:=HF.out.len;omega);obtain⟨nb,hnb⟩:∃nb,nb=x.L.length:=⟨_,rfl⟩;have HNB:=qH hnb;rw[←hnb] at HVB hlb;clear hvb hnb;obtain⟨fj,hfj⟩:∃fj:Nat,fj=(fnd hd x.L).getD 0:=⟨_,rfl⟩;obtain⟨fc,hfc⟩:∃fc:Bool,fc=(fnd hd x.L).isSome:=⟨_,rfl⟩;have HFJ:=qH (And.intro hfj hfc);have HFB:=qH (show ∀W:World,UniA B x W→Tab W→0<W.heap.size→Calls Tryz.prog 44 #[.slice pb nb cb,.agg (hc hd)] W fun e w'=>e= .returned (.tuple #[.int .i64 (fj:Int),.bool fc])∧Below W.heap.size W w' from fun W hU' ht' hz'=>by rw[hfj,hfc];exact find_any (.slice pb nb cb) x.L hd (by rw[←HNB.out];omega) HWB.out HH.out W (by rw[←HVB.out];exact hU'.base.lies) ht' hz');clear hfj hfc;(go_upto_region 11 with fail);have HDW:=qH (show Below wc.heap.size wc wc.drew from(Below.refl _ _).drew);have HBD:=qH (HBC.out.trans (HDW.out.mono HBC.out.size));have HU:=qH (HU0.out.below HBD.out);have HE:=qH (Env.at_ HT.out HZ.out (HBD.out.mono HBW.out) HBW.out);have HKD:=qH (HKS.out.below HDW.out);have H8D:=qH (H8.out.below HDW.out);refine wp_region_held_drew (S:=fun W'=>W'.cell? ⟨x.p,1,none⟩=some (.slice pb nb cb)∧Blk b5 (hc hd) 35 W') (by kernel_rfl) ⟨by rw[←HVB.out];exact HU.out.vb_,H5.out.below HDW.out⟩ (fun hS=>?_);clear HDW HBC HKS H8 H5;generalize wc.drew=W at*;refine sR 0 hS ?_;refine sR 1 hS ?_;refine sR 2 hS ?_;refine sV 3 rfl (fun w hSw=>(by have c:=hSw.1;go_simp<;>with_reducible rfl)) hS ?_;refine sV 4 rfl (fun w hSw=>(show(execOp _ _).run _ w= .ok (.value (.agg (hc hd))) w from execRow0 rfl b5 rfl hSw.2 Tryz.underlying35 rfl infoHc)) hS ?_;refine sC 5 (fun K hK=>?_);go_simp;refine(HFB.out W HU.out HE.out.1 HE.out.2).mono ?_;rintro e W2 ⟨rfl,hw2⟩;have HB2:=qH hw2;refine hK.out _ _ ⟨(hw2.cell (p:=⟨x.p,1,none⟩) (World.block_lt_of_cell? _ _ hS.1)).trans hS.1,hS.2.below hw2⟩ (fun hS=>?_);clear hK K hw2;(try simp only[Act.put,sA,sB,sE]);refine sR 6 hS ?_;refine sR 7 hS ?_;refine sR 8 hS ?_;refine sR 9 hS ?_;refine sR 10 hS ?_;refine sD ?_;have H52:=qH hS.2;have HU2:=qH (HU.out.below HB2.out);have HKE:=qH (HKD.out.below HB2.out);have H8E:=qH (H8D.out.below HB2.out);have HBE:=qH (HBD.out.trans (HB2.out.mono HBD.out.size));clear hS HU HE HKD H8D HBD HB2 HFB;(go_upto_if 74 with fail);go_cut [] (fun W=>∃x':Um,x'.un=pktS x.un port h∧UniA B x' W∧x'.p=x.p∧UFr x x' w W∧KOwns KS w.heap.size u6 (pktL x.un port h) W∧Blk b5 (hc hd) 35 W∧Blk b8 (hpa HP) 60 W∧b8∉x'.muts)
 case first=>
  cases fc
  ·have HNO:=qH (show fndU (inH port h) x.un.base=none by
    show fndU (inH port h) (x.L.map (·.u))=none;rw[←HHD.out,←fnd_map];have:=HFJ.out.2;cases hq:fnd hd x.L with
    |none=>rfl
    |some j=>rw[hq] at this;cases this)
   (go_wp2_with fail);go_meet
   case rel=>exact⟨x,by unfold pktS;rw[if_neg (by rw[HPB.out];decide),HNO.out],HU2.out,rfl,UFr.of x HBE.out,HKE.out,H52.out,H8E.out,HN8.out⟩
  ·have HYE:=qH (show fnd hd x.L=some fj by
    have h1:=HFJ.out.1;have h2:=HFJ.out.2;cases hq:fnd hd x.L with
    |none=>rw[hq] at h2;cases h2
    |some j=>rw[hq] at h1;rw[h1];rfl)
   have HSM:=qH (show fndU (inH port h) x.un.base=some fj by show fndU (inH port h) (x.L.map (·.u))=some fj;rw[←HHD.out,←fnd_map];exact HYE.out);have c1:W2.cell? ⟨x.p,1,none⟩=some (.slice pb nb cb):=(by rw[←HVB.out];exact HU2.out.vb_);have HHI:=qH (hit_any (.slice pb nb cb) x.L (by rw[←HNB.out];omega) HWB.out (fj:Int) W2 (by rw[←HVB.out];exact HU2.out.base.lies));(go_wp2_with(go_at_call 46;refine HHI.out.mono ?_;rintro e W3 ⟨gh,Lh,rfl,huh,hch⟩;refine Hid.out ?_));have HUH:=qH huh;have HU3:=qH (HU2.out.below hch.2.2.1);have HKF:=qH (HKE.out.below hch.2.2.1);have H53:=qH (H52.out.below hch.2.2.1);have H83:=qH (H8E.out.below hch.2.2.1);have HBF:=qH (HBE.out.trans (hch.2.2.1.mono HBE.out.size));have HOH:=qH (show OL B (.slice (some ⟨gh,0,none⟩) Lh.length Lh.length) Lh W3 from⟨KAt.owns okR hch.1 (by have:=hch.2.2.2;have:=HBE.out.size;have:=HBW.out;omega),fun y hy=>(hch.2.1 y hy).mono (by have:=hch.2.2.2;have:=HBE.out.size;have:=HBW.out;omega)⟩);have HTH:=qH (show W3.there x.p 1 1 from HU3.out.box.there (by show 2≤4;decide));clear huh hch c1 HHI HU2 HKE H52 H8E HBE;obtain⟨lh,hlh⟩:∃lh,lh=Lh.length:=⟨_,rfl⟩;rw[←hlh] at HOH ⊢;clear hlh;refine qH ?_;(go_wp2_with(refine storeCell rfl 27 _ _ rfl x.p 1 (.slice (some ⟨gh,0,none⟩) lh lh) rfl rfl rfl HTH.out infoSR ?_;refine Hid.out ?_));have HFW:=qH (Fr.cell W3 ⟨x.p,1,none⟩ (.slice (some ⟨gh,0,none⟩) lh lh) (M:=[x.p]) (by simp));have HMW:=qH (show Muts [x.p] W3 from fun g hg=>by simp only[List.mem_cons,List.not_mem_nil,or_false] at hg;subst hg;exact⟨_,by decide,HU3.out.box.typ⟩);have HX:=qH (show UniA B ⟨x.p,x.room,.slice (some ⟨gh,0,none⟩) lh lh,Lh,x.vo,x.ts,x.fail⟩ (W3.setCell ⟨x.p,1,none⟩ (.slice (some ⟨gh,0,none⟩) lh lh)) from UniA.wrote (p:=x.p) HU3.out.boxU rfl (HU3.out.box.one (k:=1) (.slice (some ⟨gh,0,none⟩) lh lh)) HFW.out HOH.out HU3.out.opn HU3.out.txs HU3.out.nod);have HUF:=qH (show UFr x ⟨x.p,x.room,.slice (some ⟨gh,0,none⟩) lh lh,Lh,x.vo,x.ts,x.fail⟩ w (W3.setCell ⟨x.p,1,none⟩ (.slice (some ⟨gh,0,none⟩) lh lh)) from⟨(Fr.of HBF.out).tr (HFW.out.mono fun g hg=> .inl (by simp only[List.mem_cons,List.not_mem_nil,or_false] at hg;subst hg;simp[Um.muts])),fun g hg=> .inl hg⟩);have HKG:=qH (HFW.out.ownsT HMW.out HKF.out notS);have H54:=qH (HFW.out.blk H53.out fun hm=>by simp only[List.mem_cons,List.not_mem_nil,or_false] at hm;exact HN5.out (by rw[hm];simp[Um.muts]));have H84:=qH (HFW.out.blk H83.out fun hm=>by simp only[List.mem_cons,List.not_mem_nil,or_false] at hm;exact HN8.out (by rw[hm];simp[Um.muts]));clear HTH HFW HMW HU3 HKF H53 H83 HBF HOH;generalize W3.setCell ⟨x.p,1,none⟩ (.slice (some ⟨gh,0,none⟩) lh lh)=W4 at*;refine qH ?_;(go_wp2_with fail);go_meet
   case rel=>refine⟨_,?_,HX.out,rfl,HUF.out,HKG.out,H54.out,H84.out,HN8.out⟩;unfold pktS;rw[if_neg (by rw[HPB.out];decide),HSM.out];show(⟨x.room,Lh.map (·.u),x.ts.map (·.tx),x.fail⟩:Un)=⟨x.room,hitL (fj:Int) x.un.base,x.ts.map (·.tx),x.fail⟩;rw[HUH.out];rfl
 case rest=>
 clear HU2 HKE H52 H8E HBE HFJ;obtain⟨x',hun,hux,hpx,hfx,hks,h5,h8,hn8⟩:=hcut;have HUN:=qH hun;have HUX:=qH hux;have HPX:=qH hpx;have HFX:=qH hfx;have HKS:=qH hks;have H5:=qH h5;have H8:=qH h8;have HWS:=qH hfx.fr.size;clear hun hux hpx hfx hks h5 h8 hn8;cases tb
 ·(go_upto_region 16 with fail);have HDW:=qH (show Below wc.heap.size wc wc.drew from(Below.refl _ _).drew);have HUX2:=qH (HUX.out.below HDW.out);have HFX2:=qH (HFX.out.trans (UFr.of x' HDW.out));have HKS2:=qH (HKS.out.below HDW.out);have H8D:=qH (H8.out.below HDW.out);refine wp_region_held_drew (S:=fun W'=>Blk b8 (hpa HP) 60 W') (by kernel_rfl) H8D.out (fun hS=>?_);clear HDW HUX HFX HKS H5 H8 H8D;generalize wc.drew=W at*;refine sR 0 hS ?_;refine sR 1 hS ?_;refine sV 2 rfl (fun w hSw=>(show(execOp _ _).run _ w= .ok (.value (.agg (hpa HP))) w from execRow0 rfl b8 rfl hSw Tryz.underlying60 rfl infoHp)) hS ?_;refine sR 3 hS ?_;refine sR 4 hS ?_;refine sC 5 (fun K hK=>?_);refine wp_store_row 60 _ _ rfl b8 (hpa HP) rfl rfl 60 (hpa HP) hS (by kernel_rfl) rfl (hpa_one _) ?_;rw[setRow_self _ _ _ _ _ hS];refine hK.out _ _ hS (fun hS=>?_);clear hK K;(try simp only[Act.put]);refine sD ?_;(go_wp2_with fail);refine bodyPost_ret (v:= .tuple #[u6,.slice none 0 0,.agg (hpa HP)]) ?_ rfl ?_
  ·exact res_ttc Tryz.results20 rfl rfl rfl hS Tryz.underlying60 rfl (by rw[hpa_size];exact infoHp)
  ·exact⟨x',_,_,[],by rw[HHP.out],HKS2.out,by unfold pktA;rw[if_neg (by rw[HPB.out];decide),←HTB.out];rfl,AnsL.nil _ _,HUN.out,HUX2.out,HPX.out,HFX2.out⟩
 ·have RG:=qH (Blk.new wc (gca (pkG port hd)) KG.T);have HBG:=qH (below1 wc (.cells (gca (pkG port hd)) KG.T));(go_upto_region 16 with(first|(refine wpList_load_row rfl 35 _ rfl b5 rfl 35 (hc hd) (0,0) _ H5.out Tryz.underlying35 rfl infoHc ?_)|(refine buildPk rfl _ _ _ rfl port hd rfl rfl rfl ?_)|(refine kbuildOne KG okG _ zeroG rfl _ rfl (gca (pkG port hd)) rfl (by decide) (fillG1 _) ?_)));have HDW:=qH (show Below wc.heap.size wc (wc.alloc (.cells (gca (pkG port hd)) KG.T)).drew from(HBG.out.trans (Below.refl _ _)).drew);have HUX2:=qH (HUX.out.below HDW.out);have HFX2:=qH (HFX.out.trans (UFr.of x' HDW.out));have HKS2:=qH (HKS.out.below HDW.out);have H8D:=qH (H8.out.below HDW.out);have RG2:=qH (show Blk wc.heap.size (gca (pkG port hd)) KG.T (wc.alloc (.cells (gca (pkG port hd)) KG.T)).drew from RG.out.drew);refine wp_region_held_drew (S:=fun W'=>Blk b8 (hpa HP) 60 W') (by kernel_rfl) H8D.out (fun hS=>?_);clear HDW HUX HFX HKS H5 H8 H8D RG HBG;generalize(wc.alloc (.cells (gca (pkG port hd)) KG.T)).drew=W at*;refine sR 0 hS ?_;refine sR 1 hS ?_;refine sV 2 rfl (fun w hSw=>(show(execOp _ _).run _ w= .ok (.value (.agg (hpa HP))) w from execRow0 rfl b8 rfl hSw Tryz.underlying60 rfl infoHp)) hS ?_;refine sR 3 hS ?_;refine sR 4 hS ?_;refine sC 5 (fun K hK=>?_);refine wp_store_row 60 _ _ rfl b8 (hpa HP) rfl rfl 60 (hpa HP) hS (by kernel_rfl) rfl (hpa_one _) ?_;rw[setRow_self _ _ _ _ _ hS];refine hK.out _ _ hS (fun hS=>?_);clear hK K;(try simp only[Act.put]);refine sD ?_;(go_wp2_with fail);refine bodyPost_ret (v:= .tuple #[u6,.slice (some ⟨wc.heap.size,0,none⟩) 1 1,.agg (hpa HP)]) ?_ rfl ?_
  ·exact res_ttc Tryz.results20 rfl rfl rfl hS Tryz.underlying60 rfl (by rw[hpa_size];exact infoHp)
  ·exact⟨x',_,_,[pkG port hd],by rw[HHP.out],HKS2.out,by unfold pktA;rw[if_neg (by rw[HPB.out];decide),←HTB.out,←HHD.out];rfl,AnsL.one (oneG1 RG2.out HWS.out) ⟨zM_own _ _,OL.nil _ _⟩,HUN.out,HUX2.out,HPX.out,HFX2.out⟩
theorem un_pkt (x:Um) (B k:Nat) (hF:FitM k x) (port:Int) (h:Nat→Int) (hh:Wf h) (w:World) (hU:UniA B x w) (ht:Tab w) (hz:0<B):Calls Tryz.prog 20 #[.pointer (some ⟨x.p,0,none⟩),.int .i64 port,.agg (hc h)] w (PktRet x B port h w):=by
 cases hp:portB port
 ·exact un_pkt_bad x B port hp h w hU
 ·refine un_pkt_ok x B k hF port hp h (fun j=>?_) w hU ht hz;have hp1:1≤port∧port≤16:=(by unfold portB at hp;simpa using hp);unfold inH upd;split
  ·omega
  ·exact hh j
def gonG (q : Option Addr) (c : Nat) (r : Rm) : Gm := ⟨9, 0, 0, zMm, 0, zHd, q, 1, c, [r]⟩
theorem builtGon (q:Option Addr) (c:Nat) (r:Rm):Tryz.prog.built 42 [(0,.int .i64 9),(6,.slice q 1 c)]=some (gca (gonG q c r)):=by kernel_rfl
theorem buildGon {ops:Array Oper} {rest:List Oper} {o:Oper} {a:Act} {w:World} {Q:Exit→Act→World→Prop} (hg:o.guard=none) (x y:Operand) (ho:o.op= .build 42 #[(0,x),(6,y)]) (q:Option Addr) (c:Nat) (r:Rm) (hx:a.eval x= .int .i64 9) (hy:a.eval y= .slice q 1 c) (k:wpList Tryz.prog ops Q rest (a.put o.dst (.agg (gca (gonG q c r)))) w):wpList Tryz.prog ops Q (o::rest) a w:=by
 have e:((#[(0,x),(6,y)]:Array (Nat×Operand)).map fun(p:Nat×Operand)=>(p.1,a.eval p.2)).toList=[(0,.int .i64 9),(6,.slice q 1 c)]:=(by simp[hx,hy]);have e':=congrArg (Tryz.prog.built 42) e;rw[builtGon q c r] at e';refine wpList_build hg 42 _ ho (by rw[e'];rfl) ?_;rw[e'];exact k
theorem oneR1 {b base:Nat} {r:Rm} {W:World} (h:Blk b (rca r) KR.T W) (hb:base≤b):KOwns KR base (.slice (some ⟨b,0,none⟩) 1 1) [r] W:=Blk.own (l:=[r]) okR h (by simp[Kd.flat,rca]) (by show 1≤maxLen;unfold maxLen;decide) hb
theorem ne_AG:KA.T≠KG.T:=by decide
theorem ne_RG:KR.T≠KG.T:=by decide
theorem OwnGm.grown {B b:Nat} {a:Gm} {v:Value} {l:List Gm} {W W':World} (h:OwnGm B a W) (ho:KOwns KG b v l W) (hg:W.grownBy W' v.ownBlock):OwnGm B a W':=⟨KOwns.apartT ne_AG h.1 ho hg,KOwns.apartT ne_RG h.2.1 ho hg,fun y hy=>KOwns.apartT ne_AG (h.2.2 y hy) ho hg⟩
def tkMs (us : List Ru) : List Ms := us.map fun u => ⟨9, 0, 0, zMu, 0, zHd, [u]⟩
def TckRet (x : Um) (B : Nat) (n : Int) (w : World) (e : Ending) (w' : World) : Prop :=
  ∃ (x' : Um) (v : Value) (gs : List Gm), e = .returned v ∧ gs.map (·.u) = tickA x.un n ∧ AnsL w.heap.size v gs w' ∧ x'.un = tickS x.un n ∧ UniA B x' w' ∧ x'.p = x.p ∧ UFr x x' w w'
set_option maxHeartbeats 2000000 in
set_option maxRecDepth 100000 in
theorem un_tick (x:Um) (B k:Nat) (hF:FitM k x) (n:Int) (w:World) (hU:UniA B x w):Calls Tryz.prog 21 #[.pointer (some ⟨x.p,0,none⟩),.int .i64 n] w (TckRet x B n w):=by
 obtain⟨pb,cb,hvb⟩:=hU.base.1.form;have HVB:=qH hvb;have HU:=qH hU;have HBW:=qH (show B≤w.heap.size by have:=hU.lt;have:=hU.ge;omega);have HLB:=qH (show x.L.length≤9000 by have:=hF.len;omega);have c1:w.cell? ⟨x.p,1,none⟩=some (.slice pb x.L.length cb):=(by rw[←HVB.out];exact hU.vb_);have HTK:=qH (tick_any (.slice pb x.L.length cb) x.L (by have:=HLB.out;omega) hF.wfR n w (by rw[←HVB.out];exact hU.base.lies));clear hU hvb hF;(go_enter Tryz.func21,Tryz.ntmps21);(go_upto_region 4 with(go_at_call 47;refine HTK.out.mono ?_;rintro e w1 ⟨va,vb,LA,LB,rfl,hua,hub,htk⟩;refine Hid.out ?_));have HUA:=qH hua;have HUB:=qH hub;have HOA:=qH (show OL B va LA w1 from⟨htk.a.mono HBW.out,fun y hy=>(htk.pa y hy).mono HBW.out⟩);have HOB:=qH (show OL w.heap.size vb LB w1 from⟨htk.b,htk.pb⟩);have HU1:=qH (HU.out.below htk.kept);have HB1:=qH htk.kept;have HONE:=qH (show va.oneCell'=true by obtain⟨q,cc,e⟩:=htk.a.form;rw[e];rfl);have HTH:=qH (show w1.there x.p 1 1 from HU1.out.box.there (by show 2≤4;decide));have HLN:=qH (show LB.length≤9000 by have h1:=congrArg List.length hua;have h2:=congrArg List.length hub;have h3:=left_gone_len (clampN n) (x.L.map (·.u));rw[List.length_map] at h1 h2 h3;have:=HLB.out;omega);clear hua hub htk HTK HU c1 HLB;refine qH ?_;(go_upto_region 5 with(first|(refine storeCell rfl 27 _ _ rfl x.p 1 va rfl rfl HONE.out HTH.out infoSR ?_;refine Hid.out ?_)));have HFW:=qH (Fr.cell w1 ⟨x.p,1,none⟩ va (M:=[x.p]) (by simp));have HMW:=qH (show Muts [x.p] w1 from fun g hg=>by simp only[List.mem_cons,List.not_mem_nil,or_false] at hg;subst hg;exact⟨_,by decide,HU1.out.box.typ⟩);have HX:=qH (show UniA B ⟨x.p,x.room,va,LA,x.vo,x.ts,x.fail⟩ (w1.setCell ⟨x.p,1,none⟩ va) from UniA.wrote (p:=x.p) HU1.out.boxU rfl (HU1.out.box.one (k:=1) va) HFW.out HOA.out HU1.out.opn HU1.out.txs HU1.out.nod);have HUF:=qH (show UFr x ⟨x.p,x.room,va,LA,x.vo,x.ts,x.fail⟩ w (w1.setCell ⟨x.p,1,none⟩ va) from⟨(Fr.of HB1.out).tr (HFW.out.mono fun g hg=> .inl (by simp only[List.mem_cons,List.not_mem_nil,or_false] at hg;subst hg;simp[Um.muts])),fun g hg=> .inl hg⟩);have HGO:=qH (HOB.out.fr HFW.out HMW.out);have HWS:=qH (show w.heap.size≤(w1.setCell ⟨x.p,1,none⟩ va).heap.size from Nat.le_trans HB1.out.size HFW.out.size);clear HTH HFW HMW HU1 HOA HOB HB1 HONE;generalize w1.setCell ⟨x.p,1,none⟩ va=w2 at*;obtain⟨pg,cg,eg⟩:=HGO.out.1.form;subst eg;obtain⟨m,hm⟩:∃m,m=LB.length:=⟨_,rfl⟩;have HM:=qH hm;rw[←hm] at HGO HLN ⊢;have hmB:m≤9000:=HLN.out;clear hm HLN;refine qH ?_;(go_wp2_with fail);go_loopg [7,27] m (fun q s7 s27 wr=>∃(r:Nat) (gs:List Gm),r+q=m∧s27= .int .i64 r∧gs.map (·.u)=tkMs ((LB.take r).map (·.u))∧KOwns KG w2.heap.size s7 gs wr∧(∀a∈gs,OwnGm w.heap.size a wr)∧Below w2.heap.size w2 wr)
 case atStart=>exact⟨0,[],by omega,rfl,rfl,KOwns.nil _ _,fun a ha=>(by cases ha),Below.refl _ _⟩
 case round=>
  obtain⟨r,gs,hr,rfl,hgs,hko,hog,hb⟩:=hrel;have HGS:=qH hgs;have HKO:=qH hko;have HOG:=qH hog;have HB:=qH hb;have hgl:gs.length≤9000:=(by have h1:=congrArg List.length hgs;unfold tkMs at h1;rw[List.length_map,List.length_map,List.length_map,List.length_take] at h1;omega);obtain⟨p7,c7,e7⟩:=hko.form;subst e7;clear hgs hko hog hb;by_cases hlt:r<m
  ·have hltI:(r:Int)<(m:Int):=(by omega);obtain⟨y,hy⟩:=lt_some (l:=LB) (i:=r) (by have:=HM.out;omega);obtain⟨bb,o,rfl,hrg⟩:=((HGO.out.below HB.out).1.lies okR).at hy;have HR:=qH hrg;have HY:=qH ((HGO.out.2 y (List.mem_of_getElem? hy)).below HB.out);have HTKE:=qH (show tkMs ((LB.take (r+1)).map (·.u))=tkMs ((LB.take r).map (·.u))++[⟨9,0,0,zMu,0,zHd,[y.u]⟩] by rw[List.take_add_one,hy,List.map_append];unfold tkMs;rw[List.map_append];rfl);clear hrg hy;(go_upto_region 9 with(first|(refine wpList_load_mid rfl 88 _ rfl bb (o+r*32) rfl (rcl y) _ HR.out Tryz.underlying88 rfl infoR ?_)|(refine wpList_store_row rfl 88 _ _ rfl wr.heap.size (rca y) rfl rfl 88 _ (heap_alloc_new _ _) (by kernel_rfl) rfl (rca_one _) ?_;rw[World.setRow_alloc_new])));have RX:=qH (Blk.new wr (rca y) 88);have HB1:=qH (below1 wr (.cells (rca y) 88));have HB2:=qH (HB.out.trans (HB1.out.mono HB.out.size));have HY1:=qH (HY.out.below HB1.out);have HK1:=qH (HKO.out.below HB1.out);have HG1:=qH (show ∀a∈gs,OwnGm w.heap.size a (wr.alloc (.cells (rca y) 88)) from fun a ha=>(HOG.out a ha).below HB1.out);clear HR HB HY HKO HOG HB1;generalize hW1:wr.alloc (.cells (rca y) 88)=W1 at*;clear hW1;have R1:=qH (Blk.new W1 (rca y) KR.T);have HB3:=qH (below1 W1 (.cells (rca y) KR.T));have R2:=qH (Blk.new (W1.alloc (.cells (rca y) KR.T)) (gca (gonG (some ⟨W1.heap.size,0,none⟩) 1 y)) KG.T);have HB4:=qH (below1 (W1.alloc (.cells (rca y) KR.T)) (.cells (gca (gonG (some ⟨W1.heap.size,0,none⟩) 1 y)) KG.T));have HK2:=qH ((HK1.out.below HB3.out).below HB4.out);have HLE:=qH (show w2.heap.size≤((W1.alloc (.cells (rca y) KR.T)).alloc (.cells (gca (gonG (some ⟨W1.heap.size,0,none⟩) 1 y)) KG.T)).heap.size from Nat.le_trans HB2.out.size (Nat.le_trans HB3.out.size HB4.out.size));have HLG:=qH (show gs.length+[gonG (some ⟨W1.heap.size,0,none⟩) 1 y].length≤1000000 by rw[List.length_singleton];omega);(go_wp2_with(first|(refine wpList_load_row rfl 88 _ rfl wr.heap.size rfl 88 (rca y) (0,0) _ RX.out Tryz.underlying88 rfl infoR ?_)|(refine kbuildOne KR okR _ zeroR rfl _ rfl (rca y) rfl (by decide) (fillOne y) ?_)|(refine buildGon rfl _ _ rfl (some ⟨W1.heap.size,0,none⟩) 1 y rfl rfl ?_)|(refine kbuildOne KG okG _ zeroG rfl _ rfl (gca (gonG (some ⟨W1.heap.size,0,none⟩) 1 y)) rfl (by decide) (fillG1 _) ?_)|(refine kappend KG okG rfl _ _ rfl w2.heap.size _ gs [gonG (some ⟨W1.heap.size,0,none⟩) 1 y] rfl HK2.out _ rfl ((oneG1 R2.out (Nat.le_refl _)).lies okG) HLE.out HLG.out (fun v5 w5 ho5 hg5=>?_);refine Hid.out ?_)));have HB34:=qH (HB3.out.trans (HB4.out.mono HB3.out.size));have HO5:=qH ho5;have HB5:=qH (kbelowOwn (HB2.out.trans (HB34.out.mono HB2.out.size)) HK2.out (Nat.le_refl _) hg5);have HG5:=qH (show ∀a∈gs++[gonG (some ⟨W1.heap.size,0,none⟩) 1 y],OwnGm w.heap.size a w5 from fun a ha=>by
    rcases List.mem_append.1 ha with q|q
    ·exact((HG1.out a q).below HB34.out).grown HK2.out hg5
    ·simp only[List.mem_cons,List.not_mem_nil,or_false] at q;subst q;refine OwnGm.grown ⟨zM_own _ _,oneR1 (R1.out.below HB4.out) (by have:=HB2.out.size;have:=HWS.out;omega),fun z hz=>?_⟩ HK2.out hg5;have hz':z=y:=(by simpa [gonG] using hz);subst hz';exact HY1.out.below HB34.out)
   clear ho5 hg5 HB34 R1 R2 HB3 HB4 HK1 HK2 HG1 HLE HLG HB2 HY1 RX;refine qH ?_;(go_wp2_with fail);go_roundg (m - (r+1))
   case measure=>omega
   case rel=>exact⟨r+1,_,by omega,by go_num,by rw[List.map_append,HGS.out,HTKE.out];rfl,HO5.out,HG5.out,HB5.out⟩
  ·have hltI:¬(r:Int)<(m:Int):=(by omega);have HFN:=qH (show gs.map (·.u)=tkMs (LB.map (·.u)) by rw[HGS.out,List.take_of_length_le (by have:=HM.out;omega)]);(go_wp2_with fail);go_ret;refine⟨_,_,gs,rfl,?_,⟨HKO.out.mono HWS.out,HOG.out⟩,?_,HX.out.below HB.out,rfl,HUF.out.trans (UFr.of _ HB.out)⟩
   ·rw[HFN.out,HUB.out];rfl
   ·show(⟨x.room,LA.map (·.u),x.ts.map (·.tx),x.fail⟩:Un)=tickS x.un n;rw[HUA.out];rfl
theorem un_fail (x:Um) (B:Nat) (w:World) (hU:UniA B x w):Calls Tryz.prog 23 #[.pointer (some ⟨x.p,0,none⟩)] w fun e w'=>e= .returned (.tuple #[])∧UniA B ⟨x.p,x.room,x.vb,x.L,x.vo,x.ts,true⟩ w'∧UFr x ⟨x.p,x.room,x.vb,x.L,x.vo,x.ts,true⟩ w w':=by
 have HU:=qH hU;have HTH:=qH (show w.there x.p 3 1 from hU.box.there (by show 4≤4;decide));clear hU;(go_enter Tryz.func23,Tryz.ntmps23);(go_wp2_with(refine storeCell rfl 4 _ _ rfl x.p 3 (.bool true) rfl rfl rfl HTH.out infoBool ?_;refine Hid.out ?_));have HFW:=qH (Fr.cell w ⟨x.p,3,none⟩ (.bool true) (M:=[x.p]) (by simp));have HX:=qH (show UniA B ⟨x.p,x.room,x.vb,x.L,x.vo,x.ts,true⟩ (w.setCell ⟨x.p,3,none⟩ (.bool true)) from UniA.wrote (p:=x.p) HU.out.boxU rfl (HU.out.box.one (k:=3) (.bool true)) HFW.out HU.out.base HU.out.opn HU.out.txs HU.out.nod);have HUF:=qH (show UFr x ⟨x.p,x.room,x.vb,x.L,x.vo,x.ts,true⟩ w (w.setCell ⟨x.p,3,none⟩ (.bool true)) from⟨HFW.out.mono fun g hg=> .inl (by simp only[List.mem_cons,List.not_mem_nil,or_false] at hg;subst hg;simp[Um.muts]),fun g hg=> .inl hg⟩);clear HTH HFW HU;generalize w.setCell ⟨x.p,3,none⟩ (.bool true)=w1 at*;refine qH ?_;(go_wp2_with fail);refine bodyPost_end (results_none rfl _ _ _) rfl ?_;exact⟨rfl,HX.out,HUF.out⟩
theorem un_View (x:Um) (B k:Nat) (hF:FitM k x) (w:World) (h:UniA B x w) (ht:Tab w) (hz:0<w.heap.size):Calls Tryz.prog 16 #[.pointer (some ⟨x.p,0,none⟩)] w (LayRet w.heap.size w x.un.view):=by
 have HV:=qH (un_view x B k hF w h ht hz);have HL:=qH (show x.un.view.length≤9000 by have:=hF.fit.view_len;have:=hF.n;omega);have HWV:=qH hF.fit.view;clear h ht hz hF;(go_enter Tryz.func16,Tryz.ntmps16);(go_wp2_with(go_at_call 36;refine HV.out.mono ?_;rintro e w1 ⟨v,L,rfl,hu,ho,hw1⟩;refine Hid.out ?_));have HC:=qH (copy_any v L (by have h1:=congrArg List.length hu;rw[List.length_map] at h1;have:=HL.out;omega) (HWV.out.rl hu) w1 ho.lies);have HUU:=qH hu;have HB1:=qH hw1;clear hu ho hw1 HV;refine qH ?_;(go_wp2_with(go_at_call 35;refine HC.out.mono ?_;rintro e w2 ⟨g,L2,rfl,hu2,hc⟩));go_ret;have hge:=HB1.out.size;exact⟨_,L2,rfl,by rw[hu2,HUU.out],⟨KAt.owns okR hc.1 (by have:=hc.2.2.2;omega),fun y hy=>(hc.2.1 y hy).mono (by have:=hc.2.2.2;omega)⟩,HB1.out.trans (hc.2.2.1.mono hge)⟩
abbrev KJ : Kd Int := ⟨3, 48, 1, 8, fun x => [.int .i64 x]⟩
theorem okJ:KJ.Ok where
 pos:=by decide
 len:=fun _=>rfl
 one:=fun a u hu=>by simp only[List.mem_cons,List.not_mem_nil,or_false] at hu;subst hu;rfl
 under:=Tryz.underlying48
 info:=infoOf (by kernel_rfl) (by kernel_rfl) (by kernel_rfl)
 small:=by decide
 room1:=by decide
theorem flatJ (l:List Int):KJ.flat l=l.map (Value.int .i64):=by
 induction l with
 |nil=>rfl
 |cons b l ih=>unfold Kd.flat at*;rw[List.flatMap_cons,ih];rfl
def ascL (l : List Int) : List Int := l.mergeSort fun x y => decide (x ≤ y)
theorem ascL_len (l:List Int):(ascL l).length=l.length:=List.length_mergeSort l
theorem len8_0:Lib.len8 0=0:=by decide+kernel
set_option maxHeartbeats 2000000 in
theorem len_zero (w:World):Calls Tryz.prog 101 #[.int .u64 0] w fun e w'=>e= .returned (.int .i64 0)∧w=w':=by
 (go_enter Tryz.func101,Tryz.ntmps101);go_wp2;go_ret;refine⟨?_,rfl⟩;show Ending.returned (.int .i64 (wrap64 (wrap64 (Lib.len8 0))))=_;rw[len8_0,show wrap64 (wrap64 0)=0 by decide+kernel]
theorem len_zero2 (w:World):Calls Tryz.prog 70 #[.int .u64 0] w fun e w'=>e= .returned (.int .i64 0)∧w=w':=by
 (go_enter Tryz.func70,Tryz.ntmps70);(go_wp2_with(go_at_call 101;refine(len_zero _).mono ?_;rintro e w1 ⟨rfl,rfl⟩));go_ret;exact⟨rfl,rfl⟩
theorem ins_zero (w:World):Calls Tryz.prog 91 #[.slice none 0 0,.int .i64 0,.int .i64 0] w fun e w'=>e= .returned (.tuple #[])∧w=w':=by
 (go_enter Tryz.func91,Tryz.ntmps91);go_wp2;go_loopg [6] 0 (fun k i wr=>i= .int .i64 1∧w=wr)
 case atStart=>exact⟨by go_num,rfl⟩
 case round=>obtain⟨rfl,rfl⟩:=hrel;go_wp2;refine bodyPost_end (results_none rfl _ _ _) rfl ?_;exact⟨rfl,rfl⟩
theorem pdq_zero (w:World):Calls Tryz.prog 69 #[.slice none 0 0,.int .i64 0,.int .i64 0,.int .i64 0] w fun e w'=>e= .returned (.tuple #[])∧w=w':=by
 (go_enter Tryz.func69,Tryz.ntmps69);(go_wp2_with(go_at_call 91;refine(ins_zero _).mono ?_;rintro e w1 ⟨rfl,rfl⟩));go_loopg [1,2,3] 0 (fun k a b i wr=>a= .int .i64 0∧b= .int .i64 0∧i= .int .i64 0∧w=wr)
 case atStart=>exact⟨rfl,rfl,rfl,rfl⟩
 case round=>obtain⟨rfl,rfl,rfl,rfl⟩:=hrel;(go_wp2_with(go_at_call 91;refine(ins_zero _).mono ?_;rintro e w1 ⟨rfl,rfl⟩));refine bodyPost_ret (v:= .tuple #[]) (results_none rfl _ _ _) rfl ?_;exact⟨rfl,rfl⟩
theorem sort_nil (w:World):Calls Tryz.prog 38 #[.slice none 0 0] w fun e w'=>e= .returned (.tuple #[])∧w=w':=by
 (go_enter Tryz.func38,Tryz.ntmps38);(go_wp2_with(first|(go_at_call 70;refine(len_zero2 _).mono ?_;rintro e w1 ⟨rfl,rfl⟩)|(go_at_call 69;refine(pdq_zero _).mono ?_;rintro e w1 ⟨rfl,rfl⟩)));refine bodyPost_end (results_none rfl _ _ _) rfl ?_;exact⟨rfl,rfl⟩
theorem sort_any (base:Nat) (v:Value) (l:List Int) (hl:l.length≤1000000) (w:World) (h:KOwns KJ base v l w):Calls Tryz.prog 38 #[v] w fun e w'=>e= .returned (.tuple #[])∧KOwns KJ base v (ascL l) w'∧w.grownBy w' v.ownBlock:=by
 rcases h with⟨hx,⟨rfl,h2⟩|⟨g,cap,cur,rfl,h2,h3,h4,h5,h6,h7⟩⟩
 ·have hn:l=[]:=List.length_eq_zero_iff.1 h2;subst hn;refine(sort_nil w).mono fun e w' hr=>?_;obtain⟨rfl,rfl⟩:=hr;exact⟨rfl,by rw[show ascL []=[] by simp[ascL]];exact KOwns.nil _ _,⟨rfl,rfl,rfl,Nat.le_refl _,fun _ _ _=>rfl⟩⟩
 ·have ht:cur.toList.take l.length=l.map (Value.int .i64):=(by rw[flatJ] at h7;have:=h7;rwa [show l.length*KJ.n=l.length by show l.length*1=_;omega] at this);refine(calls_of_every_depth fun D=>AnyS.slices_Sort_int_in srtInt D g 0 cap l w (holds_of_blockI h3 ht) (Array.getElem?_eq_some_iff.1 h3).1 (by omega)).mono fun e w' hr=>?_;obtain⟨rfl,n,os,rfl⟩:=hr;refine⟨rfl,?_,grownBy_sortedI _⟩;have hs:=ownsRow_sortedI (w:=w) (n:=n) (os:=os) (ss:=l) (ts:=ascL l) (base:=base) (cap:=cap) (ascL_len l) h2 h3 h4 h5 h6;unfold KOwns;rw[ascL_len,flatJ];exact hs
set_option maxHeartbeats 400000 in
theorem un_open (x:Um) (B:Nat) (hlen:x.ts.length≤9000) (w:World) (h:UniA B x w):Calls Tryz.prog 18 #[.pointer (some ⟨x.p,0,none⟩)] w fun e w'=>∃v,e= .returned v∧KOwns KJ w.heap.size v (ascL (x.ts.map (·.id))) w'∧Below w.heap.size w w':=by
 obtain⟨p,c,hv⟩:=h.voForm;have HU:=qH h;have HV:=qH hv;have c2:w.cell? ⟨x.p,2,none⟩=some (.slice p x.ts.length c):=(by rw[←HV.out];exact HU.out.vo_);clear h hv;obtain⟨n,hn⟩:∃n,n=x.ts.length:=⟨_,rfl⟩;have HN:=qH hn;rw[←hn] at hlen c2;clear hn;(go_enter Tryz.func18,Tryz.ntmps18);(go_wp2_with fail);clear c2;go_loopg [3,13] n (fun k s3 s13 wr=>∃r:Nat,r+k=n∧s13= .int .i64 r∧KOwns KJ w.heap.size s3 ((x.ts.take r).map (·.id)) wr∧Below w.heap.size w wr)
 case atStart=>exact⟨0,by omega,rfl,KOwns.nil _ _,Below.refl _ _⟩
 case round=>
  obtain⟨r,hr,rfl,ho,hb⟩:=hrel;have HO:=qH ho;have HB:=qH hb;obtain⟨p3,c3,e3⟩:=ho.form;obtain⟨q3,hq3⟩:∃q3,q3=((x.ts.take r).map (·.id)).length:=⟨_,rfl⟩;rw[←hq3] at e3;subst e3;clear ho hb hq3;by_cases hlt:r<n
  ·have hltI:(r:Int)<(n:Int):=(by omega);obtain⟨t,ht⟩:=lt_some (l:=x.ts) (i:=r) (by have:=HN.out;omega);obtain⟨b,o,rfl,hrg⟩:=(show KLies KX (.slice p n c) (x.ts.map (·.b)) wr by rw[HN.out,←HV.out];exact(HU.out.below HB.out).opn.lies okX).at (i:=r) (a:=t.b) (by rw[List.getElem?_map,ht];rfl);obtain⟨c0,c1⟩:=ptrAt hrg;have cid:wr.cell? ⟨t.b,0,none⟩=some (.int .i64 t.id):=((HU.out.txs t (List.mem_of_getElem? ht)).below HB.out).id_;have HST:=qH (show(x.ts.take (r+1)).map (·.id)=(x.ts.take r).map (·.id)++[t.id] by rw[List.take_add_one,ht,List.map_append];rfl);have RX:=qH (Blk.new wr #[.int .i64 t.id] KJ.T);have HB1:=qH (below1 wr (.cells #[.int .i64 t.id] KJ.T));have HO1:=qH (HO.out.below HB1.out);have HLE:=qH (Nat.le_trans HB.out.size HB1.out.size);have HLL:=qH (show((x.ts.take r).map (·.id)).length+[t.id].length≤1000000 by rw[List.length_map,List.length_take,List.length_singleton];omega);have HKL:=qH (show KLies KJ (.slice (some ⟨wr.heap.size,0,none⟩) 1 1) [t.id] (wr.alloc (.cells #[.int .i64 t.id] KJ.T)) from Blk.klies (l:=[t.id]) RX.out okJ (by simp[Kd.flat]));clear hrg ht;(go_wp2_with(refine kappend KJ okJ rfl _ _ rfl w.heap.size _ _ [t.id] rfl HO1.out _ rfl HKL.out HLE.out HLL.out (fun v' w' ho hg=>?_);refine Hid.out ?_));have HB2:=qH (kbelowOwn (HB.out.trans (HB1.out.mono HB.out.size)) HO1.out (Nat.le_refl _) hg);have HO2:=qH ho;clear ho hg HO HO1 HB HB1 c0 c1 cid RX HKL HLE HLL;refine qH ?_;(go_wp2_with fail);go_roundg (n - (r+1))
   case measure=>omega
   case rel=>exact⟨r+1,by omega,by go_num,by rw[HST.out];exact HO2.out,HB2.out⟩
  ·have hltI:¬(r:Int)<(n:Int):=(by omega);obtain⟨l,hl⟩:∃l,l=x.ts.map (·.id):=⟨_,rfl⟩;have HL:=qH hl;have HF:=qH (show(x.ts.take r).map (·.id)=l by rw[hl,List.take_of_length_le (by have:=HN.out;omega)]);have HOF:=qH (show KOwns KJ w.heap.size (.slice p3 q3 c3) l wr by have:=HO.out;rw[HF.out] at this;exact this);have HS:=qH (sort_any w.heap.size _ l (by rw[hl,List.length_map,←HN.out];omega) wr HOF.out);clear hl HO;(go_wp2_with(go_at_call 38;refine HS.out.mono ?_;rintro e w2 ⟨rfl,ho2,hg2⟩;refine Hid.out ?_));have HO2:=qH ho2;have HB2:=qH (kbelowOwn HB.out HOF.out (Nat.le_refl _) hg2);clear ho2 hg2 HS HOF HB;refine qH ?_;(go_wp2_with fail);go_ret;exact⟨_,rfl,by rw[←HL.out];exact HO2.out,HB2.out⟩
theorem i64s (n:Int) (h:-1000≤n∧n≤1000):I64 n:=⟨by omega,by omega⟩
def acA : Ac := ⟨1, 2, 0, 0⟩
def muA : Mu := ⟨1, fun _ => 0, 5, [acA], 0, 0, 0, false⟩
def mmA (b : Nat) : Mm := ⟨muA, some ⟨b, 0, none⟩, 1, 1⟩
def gmA (b : Nat) : Gm := ⟨1, 1, 0, mmA b, 0, zHd, none, 0, 0, []⟩
def gmC : Gm := ⟨3, 1, 0, zMm, 0, zHd, none, 0, 0, []⟩
theorem sndA0:sndM muA=true:=by decide
theorem wfA0:WfM muA:=⟨fun j=>(⟨by decide,by decide⟩:(0:Int)≤0∧(0:Int)<18446744073709551616),fun a ha=>by
 simp only[muA,List.mem_cons,List.not_mem_nil,or_false] at ha;subst ha;exact⟨by decide,by decide⟩,(by decide:1*32≤140737488355328),i64s 1 (by decide),i64s 5 (by decide),i640,i640,i640⟩
theorem wfZ0:WfM zMu:=⟨fun j=>(⟨by decide,by decide⟩:(0:Int)≤0∧(0:Int)<18446744073709551616),fun a ha=>(by cases ha),(by decide:0*32≤140737488355328),i640,i640,i640,i640,i640⟩
theorem wfHd0:Wf zHd:=fun j=>(⟨by decide,by decide⟩:(0:Int)≤0∧(0:Int)<18446744073709551616)
theorem wfGA (b:Nat):WfMs (gmA b).u:=⟨wfA0,wfHd0,fun u hu=>(by cases hu)⟩
theorem wfGC:WfMs gmC.u:=⟨wfZ0,wfHd0,fun u hu=>(by cases hu)⟩
theorem builtAc:Tryz.prog.built 83 [(0,.int .i64 1),(1,.int .i64 2)]=some (aca acA):=by kernel_rfl
theorem builtMA (b:Nat):Tryz.prog.built 40 [(0,.int .i64 1),(2,.int .i64 5),(3,.slice (some ⟨b,0,none⟩) 1 1)]=some (mca (mmA b)):=by kernel_rfl
theorem builtGA (b:Nat):Tryz.prog.built 42 [(0,.int .i64 1),(1,.int .i64 1),(3,.agg (mca (mmA b)))]=some (gca (gmA b)):=by kernel_rfl
theorem builtGC:Tryz.prog.built 42 [(0,.int .i64 3),(1,.int .i64 1)]=some (gca gmC):=by kernel_rfl
theorem builtHd:Tryz.prog.built 35 []=some (hc zHd):=by kernel_rfl
section
variable {ops : Array Oper} {rest : List Oper} {o : Oper} {a : Act} {w : World} {Q : Exit → Act → World → Prop}
theorem wpBuilt2 {T:TypeId} {i j:Nat} {cs:Array Value} (hg:o.guard=none) (x y:Operand) (ho:o.op= .build T #[(i,x),(j,y)]) (vx vy:Value) (hb:Tryz.prog.built T [(i,vx),(j,vy)]=some cs) (hx:a.eval x=vx) (hy:a.eval y=vy) (k:wpList Tryz.prog ops Q rest (a.put o.dst (.agg cs)) w):wpList Tryz.prog ops Q (o::rest) a w:=by
 have e:((#[(i,x),(j,y)]:Array (Nat×Operand)).map fun(p:Nat×Operand)=>(p.1,a.eval p.2)).toList=[(i,vx),(j,vy)]:=(by simp[hx,hy]);have e':=congrArg (Tryz.prog.built T) e;rw[hb] at e';refine wpList_build hg T _ ho (by rw[e'];rfl) ?_;rw[e'];exact k
theorem wpBuilt3 {T:TypeId} {i j l:Nat} {cs:Array Value} (hg:o.guard=none) (x y z:Operand) (ho:o.op= .build T #[(i,x),(j,y),(l,z)]) (vx vy vz:Value) (hb:Tryz.prog.built T [(i,vx),(j,vy),(l,vz)]=some cs) (hx:a.eval x=vx) (hy:a.eval y=vy) (hz:a.eval z=vz) (k:wpList Tryz.prog ops Q rest (a.put o.dst (.agg cs)) w):wpList Tryz.prog ops Q (o::rest) a w:=by
 have e:((#[(i,x),(j,y),(l,z)]:Array (Nat×Operand)).map fun(p:Nat×Operand)=>(p.1,a.eval p.2)).toList=[(i,vx),(j,vy),(l,vz)]:=(by simp[hx,hy,hz]);have e':=congrArg (Tryz.prog.built T) e;rw[hb] at e';refine wpList_build hg T _ ho (by rw[e'];rfl) ?_;rw[e'];exact k
theorem wpBuilt0 {T:TypeId} {cs:Array Value} (hg:o.guard=none) (ho:o.op= .build T #[]) (hb:Tryz.prog.built T []=some cs) (k:wpList Tryz.prog ops Q rest (a.put o.dst (.agg cs)) w):wpList Tryz.prog ops Q (o::rest) a w:=by
 have e:((#[]:Array (Nat×Operand)).map fun(p:Nat×Operand)=>(p.1,a.eval p.2)).toList=[]:=(by simp);have e':=congrArg (Tryz.prog.built T) e;rw[hb] at e';refine wpList_build hg T _ ho (by rw[e'];rfl) ?_;rw[e'];exact k
end
def unA0 : Un := ⟨4, [], [], false⟩
def unA1 : Un := ⟨4, [], [⟨1, [muA], false⟩], false⟩
theorem tab00:tabU []=true:=rfl
theorem appEA:applyE [] muA bigI=0:=by unfold applyE;rw[tab00,sndA0];rfl
theorem appLA:applyL [] muA=[newU muA]:=by unfold applyL;rw[if_pos (show muA.kind=1 from rfl),add_ins tab00 sndA0];rfl
theorem layA:layL [] [muA]=[newU muA]:=by
 show lay1 [] muA=_;unfold lay1;rw[if_pos appEA,appLA]
theorem sndGA (b:Nat):sndMs (gmA b).u=true:=by
 have h:sndMs (⟨1,1,0,muA,0,zHd,[]⟩:Ms)=true:=(by decide);exact h
theorem sndGC:sndMs gmC.u=true:=by decide
theorem chgA:chgE unA0 1 muA=0:=by
 have h1:opnO unA0.opn 1=[⟨1,[],false⟩]:=rfl;have h2:plO unA0.opn 1=0:=(by decide);have h3:txO [⟨1,[],false⟩] 0=⟨1,[],false⟩:=rfl;have h4:judE unA0.room unA0.base [⟨1,[],false⟩] muA=0:=(by have hv:viewO unA0.base [⟨1,[],false⟩]=[]:=rfl;unfold judE;rw[hv,appEA,if_neg (by decide),if_neg];intro h;have h5:(keysU unA0.base (chgO [⟨1,[],false⟩]++[muA])).length=1:=(by decide);rw[h5] at h;exact absurd h.2 (by decide));unfold chgE;rw[h1,h2,h3,h4];rfl
theorem chgSA:chgS unA0 1 muA=unA1:=by
 have h1:opnO unA0.opn 1=[⟨1,[],false⟩]:=rfl;have h2:plO unA0.opn 1=0:=(by decide);have h3:txO [⟨1,[],false⟩] 0=⟨1,[],false⟩:=rfl;unfold chgS;rw[chgA,h1,h2,h3];rfl
theorem takA1 (b:Nat):takeA unA0 (gmA b).u=[]:=by rw[takeA_mod (sndGA b) rfl,show(gmA b).u.txn=1 from rfl,show(gmA b).u.mod=muA from rfl,chgA];rfl
theorem takS1 (b:Nat):takeS unA0 (gmA b).u=unA1:=by rw[takeS_mod (sndGA b) rfl,show(gmA b).u.txn=1 from rfl,show(gmA b).u.mod=muA from rfl,chgSA]
theorem viewA:unA1.view=[newU muA]:=layA
theorem fndA:fndU (inH 1 zHd) unA1.view=some 0:=by
 rw[viewA];unfold fndU;rw[List.findIdx?_cons,show hasB (newU muA).m (inH 1 zHd)=true by show hasB (fun _=>0) (inH 1 zHd)=true;decide];rfl
theorem ruA:ruAt unA1.view 0=newU muA:=by rw[viewA];rfl
theorem pktLA:(pktL unA1 1 zHd).length=1:=by
 unfold pktL;rw[if_neg (by decide),fndA];show(runV (ruAt unA1.view 0).acts (inH 1 zHd)).length=1;rw[ruA];show(runV [acA] (inH 1 zHd)).length=1;unfold runV;rw[if_pos (by decide)];rfl
theorem pktAA:pktA unA1 1 zHd=[]:=by
 unfold pktA;rw[if_neg (by decide),if_neg];unfold pktT;rw[fndA];show ¬runB (ruAt unA1.view 0).acts=true;rw[ruA];show ¬runB [acA]=true;decide
theorem pktHA:(pktH unA1 1 zHd).hit=true:=by
 unfold pktH;rw[if_neg (by decide),fndA]
theorem pktSA:pktS unA1 1 zHd=unA1:=by
 unfold pktS;rw[if_neg (by decide)];rfl
theorem takS2:takeS unA1 gmC.u=⟨4,[newU muA],[],false⟩:=by
 have h1:endB unA1 1=[muA]:=(by have h2:plO unA1.opn 1=0:=(by decide);unfold endB;rw[h2];rfl);have h3:endO unA1 1=[]:=(by have h2:plO unA1.opn 1=0:=(by decide);unfold endO;rw[h2];rfl);unfold takeS;rw[if_neg (sndNot sndGC),if_neg (by decide),if_pos (by rfl),show gmC.u.txn=1 from rfl,h1,h3,show unA1.base=[] from rfl,layA];rfl
theorem fitA0 (b:Nat):FitM 0 (nilUm b 4):=⟨⟨fun u hu=>(by cases hu),fun u hu=>(by cases hu),List.nodup_nil,Nat.le_refl _,Nat.le_refl _,rfl,fun u hu=>(by cases hu)⟩,by decide⟩
theorem FitM.take {k:Nat} {x x':Um} {m:Ms} (h:FitM k x) (hm:WfMs m) (hk:k+2≤9000) (e:x'.un=takeS x.un m):FitM (k+2) x':=⟨by rw[e];exact h.fit.take hm,hk⟩
theorem FitM.same {k:Nat} {x x':Um} (h:FitM k x) (e:x'.un=x.un):FitM k x':=⟨by rw[e];exact h.fit,h.n⟩
theorem AnsL.form0 {B:Nat} {v:Value} {gs:List Gm} {W:World} (h:AnsL B v gs W) (e:gs.map (·.u)=[]):∃p c,v= .slice p 0 c:=by
 have:gs=[]:=(by simpa using e);subst this;obtain⟨p,c,e⟩:=h.1.form;exact⟨p,c,e⟩
set_option maxHeartbeats 2000000 in
set_option maxRecDepth 100000 in
theorem answers13 (w:World) (ht:Tab w) (hz:0<w.heap.size):Calls Tryz.prog 11 #[] w fun e w'=>e= .returned (.bool true)∧Below w.heap.size w w':=by
 have HT:=qH ht;have HZ:=qH hz;have HC:=qH (un_new 4 w);clear ht;(go_enter Tryz.func11,Tryz.ntmps11);(go_wp2_with(go_at_call 10;refine HC.out.mono ?_;rintro e w1 ⟨rfl,hu,hb⟩;refine Hid.out ?_));have hU0:UniA w.heap.size (nilUm w.heap.size 4) w1:=hu;have HU1:=qH hU0;have HB1:=qH hb;clear hu hb hU0 HC;have HBA:=qH ((below1 w1 (.cells (aca acA) KA.T)).trans ((below1 (w1.alloc (.cells (aca acA) KA.T)) (.cells #[.int .i64 0,.int .u64 0,.int .u64 0,.int .u64 0,.int .u64 0,.int .u64 0,.int .u64 0,.int .u64 0,.int .u64 0,.int .u64 0,.int .u64 0,.int .u64 0,.int .u64 0,.int .u64 0,.int .u64 0,.int .u64 0,.int .u64 0,.int .u64 0,.int .u64 0,.int .u64 0,.int .u64 0,.int .u64 0,.int .u64 0,.int .u64 0,.int .u64 0,.int .i64 0,Value.slice none 0 0,.int .i64 0,.int .i64 0,.int .i64 0,Value.bool false] 40)).mono (below1 w1 _).size));have RM0:=qH (Blk.new2 w1 (.cells (aca acA) KA.T) #[.int .i64 0,.int .u64 0,.int .u64 0,.int .u64 0,.int .u64 0,.int .u64 0,.int .u64 0,.int .u64 0,.int .u64 0,.int .u64 0,.int .u64 0,.int .u64 0,.int .u64 0,.int .u64 0,.int .u64 0,.int .u64 0,.int .u64 0,.int .u64 0,.int .u64 0,.int .u64 0,.int .u64 0,.int .u64 0,.int .u64 0,.int .u64 0,.int .u64 0,.int .i64 0,Value.slice none 0 0,.int .i64 0,.int .i64 0,.int .i64 0,Value.bool false] 40);have RA0:=qH ((Blk.new w1 (aca acA) KA.T).below (below1 _ (.cells #[.int .i64 0,.int .u64 0,.int .u64 0,.int .u64 0,.int .u64 0,.int .u64 0,.int .u64 0,.int .u64 0,.int .u64 0,.int .u64 0,.int .u64 0,.int .u64 0,.int .u64 0,.int .u64 0,.int .u64 0,.int .u64 0,.int .u64 0,.int .u64 0,.int .u64 0,.int .u64 0,.int .u64 0,.int .u64 0,.int .u64 0,.int .u64 0,.int .u64 0,.int .i64 0,Value.slice none 0 0,.int .i64 0,.int .i64 0,.int .i64 0,Value.bool false] 40)));refine qH ?_;(go_upto_region 3 with(first|(refine wpBuilt2 rfl _ _ rfl _ _ builtAc rfl rfl ?_)|(refine kbuildOne KA okA zA zeroA rfl _ rfl (aca acA) rfl (by decide) (fillA acA) ?_)|(refine wpBuilt3 rfl _ _ _ rfl _ _ _ (builtMA w1.heap.size) rfl rfl rfl ?_)|(refine wpList_store_row rfl 40 _ _ rfl (w1.heap.size+1) (mca (mmA w1.heap.size)) rfl rfl 40 _ RM0.out (by kernel_rfl) rfl (mca_one _) ?_;refine Hid.out ?_)));obtain⟨bA,hbA⟩:∃bA,bA=w1.heap.size:=⟨_,rfl⟩;rw[←hbA] at RM0 RA0 ⊢;have HB2:=qH (below_setRow HBA.out (show w1.heap.size≤bA+1 by omega) (mca (mmA bA)));have RM:=qH (RM0.out.rset (mca (mmA bA)));have RA:=qH ((setRow_other _ _ _ (mca (mmA bA)) (show bA≠bA+1 by omega)).trans RA0.out);have HBG:=qH (Nat.le_of_eq hbA.symm);clear hbA HBA RM0 RA0;generalize((w1.alloc (.cells (aca acA) KA.T)).alloc (.cells #[.int .i64 0,.int .u64 0,.int .u64 0,.int .u64 0,.int .u64 0,.int .u64 0,.int .u64 0,.int .u64 0,.int .u64 0,.int .u64 0,.int .u64 0,.int .u64 0,.int .u64 0,.int .u64 0,.int .u64 0,.int .u64 0,.int .u64 0,.int .u64 0,.int .u64 0,.int .u64 0,.int .u64 0,.int .u64 0,.int .u64 0,.int .u64 0,.int .u64 0,.int .i64 0,Value.slice none 0 0,.int .i64 0,.int .i64 0,.int .i64 0,Value.bool false] 40)).setRow (bA+1) (mca (mmA bA))=w2 at*;have HU2:=qH (HU1.out.below HB2.out);have HOM:=qH (show OwnM 0 (mmA bA) w2 from Blk.own (l:=[acA]) okA RA.out (by simp[Kd.flat,aca,acl]) (by show 1≤maxLen;unfold maxLen;decide) (Nat.zero_le _));have HT2:=qH (Env.at_ HT.out HZ.out (HB1.out.trans (HB2.out.mono HB1.out.size)) (Nat.le_refl _));have HTK:=qH (un_take (nilUm w.heap.size 4) w.heap.size 0 (fitA0 _) (by decide) (gmA bA) (wfGA bA) w2 HU2.out ⟨HOM.out.inM,rlies_nil _⟩ (.inr HOM.out) HT2.out.1 HZ.out);clear RA HU1;refine qH ?_;(go_wp2_with(first|(refine wpList_load_row rfl 40 _ rfl (bA+1) rfl 40 (mca (mmA bA)) (0,0) _ RM.out Tryz.underlying40 rfl infoMod ?_)|(refine wpBuilt3 rfl _ _ _ rfl _ _ _ (builtGA bA) rfl rfl rfl ?_)|(go_at_call 19;refine HTK.out.mono ?_;rintro e w3 ⟨x3,v3,g3,rfl,hg3,ha3,hun3,hu3,hp3,hf3⟩;refine Hid.out ?_)));obtain⟨p3,c3,e3⟩:=ha3.form0 (hg3.trans (takA1 bA));subst e3;have hn3:x3.un=unA1:=hun3.trans (takS1 bA);have HN3:=qH hn3;have HU3:=qH hu3;have HP3:=qH (show x3.p=w.heap.size from hp3);have HT3:=qH (hf3.env HU2.out HT2.out.1 HZ.out);have HB3:=qH (show Below w.heap.size w w3 from(HB1.out.trans (HB2.out.mono HB1.out.size)).trans (hf3.old HU2.out (Nat.le_trans HB1.out.size HB2.out.size) (Below.refl _ _)));have HF3:=qH ((fitA0 w.heap.size).take (wfGA bA) (by decide) hun3);have HPK:=qH (un_pkt x3 w.heap.size 2 HF3.out 1 zHd wfHd0 w3 hu3 HT3.out.1 HZ.out);rw[HP3.out] at HPK;clear hg3 ha3 hun3 hu3 hp3 hf3 hn3 HTK HU2 HT2 HOM RM HB1 HB2 HBG;refine qH ?_;(go_wp2_with(first|(refine wpBuilt0 rfl rfl builtHd ?_)|(go_at_call 20;refine HPK.out.mono ?_;rintro e w4 ⟨x4,vs,va,g4,rfl,hks,hg4,ha4,hun4,hu4,hp4,hf4⟩;refine Hid.out ?_)));rw[HN3.out] at hks hg4 hun4;rw[pktAA] at hg4;rw[pktSA] at hun4;obtain⟨p4,c4,e4⟩:=ha4.form0 hg4;subst e4;obtain⟨ps,cs,es⟩:=hks.form;rw[pktLA] at es;subst es;obtain⟨HP,hHP⟩:∃HP,HP=pktH x3.un 1 zHd:=⟨_,rfl⟩;have HHP:=qH (show HP.hit=true by rw[hHP,HN3.out];exact pktHA);rw[←hHP];have HN4:=qH hun4;have HU4:=qH hu4;have HP4:=qH (hp4.trans HP3.out);have HT4:=qH (hf4.env HU3.out HT3.out.1 HZ.out);have HB4:=qH (show Below w.heap.size w w4 from HB3.out.trans (hf4.old HU3.out HB3.out.size (Below.refl _ _)));have HF4:=qH (HF3.out.same (hun4.trans HN3.out.symm));clear hHP hks hg4 ha4 hun4 hu4 hp4 hf4 HPK HU3 HT3 HB3;have RH:=qH (Blk.new w4 (hpa HP) 60);have HBH:=qH (below1 w4 (.cells (hpa HP) 60));refine qH ?_;(go_upto_region 5 with(refine wpList_store_row rfl 60 _ _ rfl w4.heap.size (hpa HP) rfl rfl 60 _ (heap_alloc_new _ _) (by kernel_rfl) rfl (hpa_one _) ?_;rw[World.setRow_alloc_new]));obtain⟨bH,hbH⟩:∃bH,bH=w4.heap.size:=⟨_,rfl⟩;rw[←hbH] at RH ⊢;have HNH:=qH (show bH∉x4.muts from fun hm=>by have:=HU4.out.muts.lt _ hm;omega);clear hbH;generalize hW5:w4.alloc (.cells (hpa HP) 60)=w5 at*;clear hW5;have HU5:=qH (HU4.out.below HBH.out);have HT5:=qH (show Tab w5∧0<w5.heap.size from⟨HT4.out.1.below HT4.out.2 HBH.out,by have:=HBH.out.size;have:=HT4.out.2;omega⟩);have HB5:=qH (HB4.out.trans (HBH.out.mono HB4.out.size));have HTC:=qH (un_take x4 w.heap.size 2 HF4.out (by decide) gmC wfGC w5 HU5.out ⟨zM_in _,rlies_nil _⟩ (.inr (zM_own 0 _)) HT5.out.1 HZ.out);rw[HP4.out] at HTC;clear HU4 HT4 HB4 HBH;(go_wp2_with(first|(refine wpBuilt2 rfl _ _ rfl _ _ builtGC rfl rfl ?_)|(go_at_call 19;refine HTC.out.mono ?_;rintro e w6 ⟨x6,v6,g6,rfl,hg6,ha6,hun6,hu6,hp6,hf6⟩;refine Hid.out ?_)));have hn6:x6.un=⟨4,[newU muA],[],false⟩:=hun6.trans (by rw[HN4.out];exact takS2);have HN6:=qH hn6;have HU6:=qH hu6;have HP6:=qH (hp6.trans HP4.out);have HB6:=qH (show Below w.heap.size w w6 from HB5.out.trans (hf6.old HU5.out HB5.out.size (Below.refl _ _)));have RH6:=qH (hf6.fr.blk RH.out HNH.out);have HF6:=qH (HF4.out.take wfGC (by decide) hun6);have HBS:=qH (un_base x6 w.heap.size 4 HF6.out w6 hu6);rw[HP6.out] at HBS;clear hg6 ha6 hun6 hu6 hp6 hf6 hn6 HTC HU5 HT5 HB5 RH HNH HF4;have k14:w6.cell? ⟨bH,14,none⟩=some (.bool true):=(by rw[←HHP.out];exact(cell_of_row _ bH 14 _ _ _ RH6.out).trans rfl);refine qH ?_;(go_wp2_with(go_at_call 15;refine HBS.out.mono ?_;rintro e w7 ⟨vb,Lb,rfl,hub,hob,hw7⟩;refine Hid.out ?_));have hlb:Lb.length=1:=(by have h1:=congrArg List.length hub;rw[HN6.out,List.length_map] at h1;exact h1);obtain⟨pb,cb,eb⟩:=hob.1.form;rw[hlb] at eb;subst eb;have HU7:=qH (HU6.out.below hw7);have HB7:=qH (HB6.out.trans (hw7.mono HB6.out.size));have hts:x6.ts=[]:=(by have h1:x6.ts.map (·.tx)=[]:=congrArg Un.opn HN6.out;simpa using h1);have HOP:=qH (un_open x6 w.heap.size (by rw[hts];decide) w7 HU7.out);rw[HP6.out,hts] at HOP;clear hlb hub hob hw7 hts HU6 HB6 HBS k14 RH6;refine qH ?_;(go_wp2_with(go_at_call 18;refine HOP.out.mono ?_;rintro e w8 ⟨vo,rfl,hko,hw8⟩;refine Hid.out ?_));obtain⟨po,co,eo⟩:=hko.form;rw[show(ascL (([]:List Tm).map (·.id))).length=0 from ascL_len _] at eo;subst eo;have HB8:=qH (HB7.out.trans (hw8.mono HB7.out.size));clear hko hw8 HOP HU7 HB7;refine qH ?_;(go_wp2_with fail);go_ret;exact⟨rfl,HB8.out⟩
end Go.Proofs.YtomnpfbebimpkaaGreatDoor
