/-
  Messages that come in by value, opened.
-/
import Derived.Test.YtomnpfbebimpkaaGreatDoorModArg
import Derived.Test.YtomnpfbebimpkaaGreatDoorCodVal
import Derived.Test.YtomnpfbebimpkaaGreatDoorSq
namespace Go.Proofs.YtomnpfbebimpkaaGreatDoor
set_option maxRecDepth 20000
open Go.ChangeShapes Go.WideShapes Go.ChangeAt Go.RowKit
theorem cMsg:Tryz.prog.cellsOf 42=48:=by kernel_rfl
theorem msgFields:∃f0 f1 f2 f3 f4 f5 f6:Field,Tryz.prog.underlying 42=some (.struct #[f0,f1,f2,f3,f4,f5,f6])∧(f0.type=3∧f0.offset=0)∧(f1.type=3∧f1.offset=1)∧(f2.type=32∧f2.offset=2)∧(f3.type=40∧f3.offset=3)∧(f4.type=3∧f4.offset=34)∧(f5.type=35∧f5.offset=35)∧(f6.type=27∧f6.offset=47):=⟨_,_,_,_,_,_,_,Tryz.underlying42,⟨rfl,rfl⟩,⟨rfl,rfl⟩,⟨rfl,rfl⟩,⟨rfl,rfl⟩,⟨rfl,rfl⟩,⟨rfl,rfl⟩,⟨rfl,rfl⟩⟩
structure WfG (g : Gm) : Prop where
  mod : WfM g.mod.u
  head : Wf g.head
  rules : WfRL g.rs
  nr : g.rs.length ≤ 140737488355328
section
variable {H : Type} {enc : TypeId × Value → H} {W : World} {base : Nat} {sp : Nat → Bool} {held : Bool}
theorem trod_msg (fuel:Nat) (cs:List Value) (x:DataW H×List MemPlace) (h:DataW.trod enc Tryz.prog W base sp held fuel 42 cs=some x) (hwt:∀n∈x.1.weights Tryz.prog 42,n≤reachBytes):∃g:Gm,cs=gcl g∧(WfG g∧InG g W):=by
 obtain⟨f0,f1,f2,f3,f4,f5,f6,hu,⟨t0,o0⟩,⟨t1,o1⟩,⟨t2,o2⟩,⟨t3,o3⟩,⟨t4,o4⟩,⟨t5,o5⟩,⟨t6,o6⟩⟩:=msgFields;obtain⟨xs,n,_,rfl,hlc,hlen,hf⟩:=DataW.trod_struct hu h;have hcs:cs.length=48:=(by rw[hlc,cMsg]);have cI:Tryz.prog.cellsOf 3=1:=(by kernel_rfl);have cE:Tryz.prog.cellsOf 32=1:=(by kernel_rfl);have cS:Tryz.prog.cellsOf 27=1:=(by kernel_rfl);match xs,hlen with
 |[y0,y1,y2,y3,y4,y5,y6],_=>
  have h0:=hf 0 f0 rfl;have h1:=hf 1 f1 rfl;have h2:=hf 2 f2 rfl;have h3:=hf 3 f3 rfl;have h4:=hf 4 f4 rfl;have h5:=hf 5 f5 rfl;have h6:=hf 6 f6 rfl;rw[t0,o0,cI] at h0;rw[t1,o1,cI] at h1;rw[t2,o2,cE] at h2;rw[t3,o3,cMod] at h3;rw[t4,o4,cI] at h4;rw[t5,o5,cHead] at h5;rw[t6,o6,cS] at h6;have hw3:∀n∈y3.1.weights Tryz.prog 40,n≤reachBytes:=fun k hk=>(by refine hwt k ?_;simp only[DataW.weights,hu];exact DataW.weights_mem_each (j:=3) (t:=40) (d:=y3.1) (by simp[t3]) (by simp) k hk);have hw6:∀n∈y6.1.weights Tryz.prog 27,n≤reachBytes:=fun k hk=>(by refine hwt k ?_;simp only[DataW.weights,hu];exact DataW.weights_mem_each (j:=6) (t:=27) (d:=y6.1) (by simp[t6]) (by simp) k hk);obtain⟨kd,e0,_,w0⟩:=DataW.trod_int Tryz.underlying3 h0;obtain⟨tx,e1,_,w1⟩:=DataW.trod_int Tryz.underlying3 h1;obtain⟨er,e2,_,w2⟩:=DataW.trod_int Tryz.underlying32 h2;obtain⟨m,e3,wm,im⟩:=trod_mod _ _ _ h3 hw3;obtain⟨pt,e4,_,w4⟩:=DataW.trod_int Tryz.underlying3 h4;obtain⟨hd,e5,_,wh⟩:=trod_head h5;obtain⟨q,nn,c,l,e6,hlies,hwf,hroom⟩:=trod_kind KR okR (fun r=>WfR r.u∧InA r W) cRule trod_rule h6 hw6;rw[hl_hc] at e5;have hn:nn=l.length:=(by obtain⟨p,c',e⟩:=KLies.form hlies;injection e);refine⟨⟨kd,tx,er,m,pt,hd,q,nn,c,l⟩,?_,⟨wm,wf_of wh,fun r hr=>(hwf r hr).1,?_⟩,im,⟨hlies,fun r hr=>(hwf r hr).2⟩⟩
  ·show cs=[.int .i64 kd,.int .i64 tx,.int .i64 er]++(mcl m++(.int .i64 pt::(hl hd++[.slice q nn c])));have s0:=drop_cons _ _ _ e0;rw[List.drop_zero] at s0;have s3:cs.drop 3=mcl m++cs.drop 34:=(by rw[←List.take_append_drop 31 (cs.drop 3),e3,List.drop_drop]);have s5:cs.drop 35=hl hd++cs.drop 47:=(by rw[←List.take_append_drop 12 (cs.drop 35),e5,List.drop_drop]);rw[s0,drop_cons _ _ _ e1,drop_cons _ _ _ e2,s3,drop_cons _ _ _ e4,s5,drop_cons _ _ _ e6,List.drop_of_length_le (by omega)];rfl
  ·have:=reach_le;have hbr:Tryz.prog.bytesOf KR.T=272:=(by kernel_rfl);rw[hbr] at hroom;show l.length≤_;omega
end
theorem WfG.ms {g:Gm} (h:WfG g):WfMs g.u:=⟨h.mod,h.head,WfUL.of h.rules⟩
end Go.Proofs.YtomnpfbebimpkaaGreatDoor
