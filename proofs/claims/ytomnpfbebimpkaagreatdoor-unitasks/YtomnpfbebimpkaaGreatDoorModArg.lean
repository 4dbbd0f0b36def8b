/-
  Changes that come in by value, opened.
-/
import Derived.Test.YtomnpfbebimpkaaGreatDoorRuleArg
import Derived.Test.YtomnpfbebimpkaaGreatDoorPackMod
import Derived.Test.YtomnpfbebimpkaaGreatDoorSq
namespace Go.Proofs.YtomnpfbebimpkaaGreatDoor
set_option maxRecDepth 20000
open Go.ChangeShapes Go.WideShapes Go.ChangeAt Go.RowKit
theorem cMod:Tryz.prog.cellsOf 40=31:=by kernel_rfl
theorem modFields:∃f0 f1 f2 f3 f4 f5 f6 f7:Field,Tryz.prog.underlying 40=some (.struct #[f0,f1,f2,f3,f4,f5,f6,f7])∧(f0.type=3∧f0.offset=0)∧(f1.type=37∧f1.offset=1)∧(f2.type=3∧f2.offset=25)∧(f3.type=38∧f3.offset=26)∧(f4.type=3∧f4.offset=27)∧(f5.type=3∧f5.offset=28)∧(f6.type=3∧f6.offset=29)∧(f7.type=4∧f7.offset=30):=⟨_,_,_,_,_,_,_,_,Tryz.underlying40,⟨rfl,rfl⟩,⟨rfl,rfl⟩,⟨rfl,rfl⟩,⟨rfl,rfl⟩,⟨rfl,rfl⟩,⟨rfl,rfl⟩,⟨rfl,rfl⟩,⟨rfl,rfl⟩⟩
section
variable {H : Type} {enc : TypeId × Value → H} {W : World} {base : Nat} {sp : Nat → Bool} {held : Bool}
theorem trod_mod (fuel:Nat) (cs:List Value) (x:DataW H×List MemPlace) (h:DataW.trod enc Tryz.prog W base sp held fuel 40 cs=some x) (hwt:∀n∈x.1.weights Tryz.prog 40,n≤reachBytes):∃m:Mm,cs=mcl m∧(WfM m.u∧InM m W):=by
 obtain⟨f0,f1,f2,f3,f4,f5,f6,f7,hu,⟨t0,o0⟩,⟨t1,o1⟩,⟨t2,o2⟩,⟨t3,o3⟩,⟨t4,o4⟩,⟨t5,o5⟩,⟨t6,o6⟩,⟨t7,o7⟩⟩:=modFields;obtain⟨xs,n,_,rfl,hl,hlen,hf⟩:=DataW.trod_struct hu h;have hcs:cs.length=31:=(by rw[hl,cMod]);have cI:Tryz.prog.cellsOf 3=1:=(by kernel_rfl);have cS:Tryz.prog.cellsOf 38=1:=(by kernel_rfl);have cB:Tryz.prog.cellsOf 4=1:=(by kernel_rfl);match xs,hlen with
 |[y0,y1,y2,y3,y4,y5,y6,y7],_=>
  have h0:=hf 0 f0 rfl;have h1:=hf 1 f1 rfl;have h2:=hf 2 f2 rfl;have h3:=hf 3 f3 rfl;have h4:=hf 4 f4 rfl;have h5:=hf 5 f5 rfl;have h6:=hf 6 f6 rfl;have h7:=hf 7 f7 rfl;rw[t0,o0,cI] at h0;rw[t1,o1,cCube] at h1;rw[t2,o2,cI] at h2;rw[t3,o3,cS] at h3;rw[t4,o4,cI] at h4;rw[t5,o5,cI] at h5;rw[t6,o6,cI] at h6;rw[t7,o7,cB] at h7;have hw3:∀n∈y3.1.weights Tryz.prog 38,n≤reachBytes:=fun k hk=>(by refine hwt k ?_;simp only[DataW.weights,hu];exact DataW.weights_mem_each (j:=3) (t:=38) (d:=y3.1) (by simp[t3]) (by simp) k hk);obtain⟨kd,e0,_,w0⟩:=DataW.trod_int Tryz.underlying3 h0;obtain⟨m,em,_,wm⟩:=trod_cube h1;obtain⟨p,e2,_,w2⟩:=DataW.trod_int Tryz.underlying3 h2;obtain⟨q,nn,c,acts,e3,hlies,hwf,hroom⟩:=trod_kind KA okA WfA cAct (fun fu c' x' h' _=>trod_act fu c' x' h') h3 hw3;obtain⟨idle,e4,_,w4⟩:=DataW.trod_int Tryz.underlying3 h4;obtain⟨hard,e5,_,w5⟩:=DataW.trod_int Tryz.underlying3 h5;obtain⟨owner,e6,_,w6⟩:=DataW.trod_int Tryz.underlying3 h6;obtain⟨chk,e7,_⟩:=DataW.trod_bool Tryz.underlying4 h7;refine⟨⟨⟨kd,m,p,acts,idle,hard,owner,chk⟩,q,nn,c⟩,?_,⟨wf_of wm,hwf,?_,i64_of w0,i64_of w2,i64_of w4,i64_of w5,i64_of w6⟩,hlies⟩
  ·show cs= .int .i64 kd::(cl m++[_,_,_,_,_,_]);have s0:=drop_cons _ _ _ e0;rw[List.drop_zero] at s0;have s1:cs.drop 1=cl m++cs.drop 25:=(by rw[←List.take_append_drop 24 (cs.drop 1),em,List.drop_drop]);rw[s0,s1,drop_cons _ _ _ e2,drop_cons _ _ _ e3,drop_cons _ _ _ e4,drop_cons _ _ _ e5,drop_cons _ _ _ e6,drop_cons _ _ _ e7,List.drop_of_length_le (by omega)]
  ·have:=reach_le;rw[show Tryz.prog.bytesOf KA.T=32 from bytesAct] at hroom;show acts.length*32≤_;omega
end
theorem u8_of {n:Int} (h:(Lit.int .u8 n).wf=true):0≤n∧n<256:=by
 simp only[Lit.wf,Bool.and_eq_true,decide_eq_true_eq] at h;have e1:IntKind.u8.max=255:=(by decide);have e2:IntKind.u8.min=0:=(by decide);rw[e1,e2] at h;omega
end Go.Proofs.YtomnpfbebimpkaaGreatDoor
