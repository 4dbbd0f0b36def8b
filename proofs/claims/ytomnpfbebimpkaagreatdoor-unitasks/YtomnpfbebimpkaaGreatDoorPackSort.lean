/- Several of my texts as one: RuleIns, RuleBin, RuleSrtM, RuleSrt. -/
import Derived.Test.YtomnpfbebimpkaaGreatDoorPackRule
import Derived.Shelf.Spec.SlicesInsertGrow
import Derived.Test.YtomnpfbebimpkaaGreatDoorProg
import Derived.Test.YtomnpfbebimpkaaGreatDoorPackAct
import Derived.Test.YtomnpfbebimpkaaGreatDoorSq
namespace Go.Proofs.YtomnpfbebimpkaaGreatDoor
def insInt_ren : Go.Shelf.Ren := ⟨fun | 21 => 154 | 27 => 159 | 28 => 160 | 35 => 162 | 39 => 163 | n => n, fun | 22 => 48 | 3 => 3 | 4 => 4 | 0 => 0 | n => n, fun | n => n⟩
theorem insInt : Go.Proofs.Lays2.n21 Tryz.prog insInt_ren := {
  mixed := by kernel_rfl
  f21 := Tryz.func154.trans (congrArg some (by kernel_rfl))
  f27 := Tryz.func159.trans (congrArg some (by kernel_rfl))
  f28 := Tryz.func160.trans (congrArg some (by kernel_rfl))
  f35 := Tryz.func162.trans (congrArg some (by kernel_rfl))
  f39 := Tryz.func163.trans (congrArg some (by kernel_rfl))
  t0 := Tryz.underlying0
  a0 := Tryz.isAgg0
  z0 := Tryz.sizeOf0
  v0 := Tryz.zeroValue0
  t3 := Tryz.underlying3
  a3 := Tryz.isAgg3
  z3 := Tryz.sizeOf3
  v3 := Tryz.zeroValue3
  t4 := Tryz.underlying4
  a4 := Tryz.isAgg4
  z4 := Tryz.sizeOf4
  v4 := Tryz.zeroValue4
  t22 := Tryz.underlying48
  a22 := Tryz.isAgg48
  z22 := Tryz.sizeOf48
  v22 := Tryz.zeroValue48
  i3 := by kernel_rfl }
end Go.Proofs.YtomnpfbebimpkaaGreatDoor

/-
  slices.Insert of one number, by the library's contract.
-/
namespace Go.Proofs.YtomnpfbebimpkaaGreatDoor
set_option maxRecDepth 20000
open Go.RowKit
abbrev KI : Kd Nat := ⟨3, 48, 1, 8, fun n => [.int .i64 (n : Int)]⟩
theorem okI:KI.Ok where
 pos:=by decide
 len:=fun _=>rfl
 one:=fun a u hu=>by simp only[List.mem_cons,List.not_mem_nil,or_false] at hu;subst hu;rfl
 under:=Tryz.underlying48
 info:=infoOf (by kernel_rfl) (by kernel_rfl) (by kernel_rfl)
 small:=by decide
 room1:=by decide
theorem infoI:(Tryz.prog.info? 3).map (·.size)=some 1:=by kernel_rfl
def putAt (l : List Nat) (i x : Nat) : List Nat := l.take i ++ x :: l.drop i
theorem putAt_len {l:List Nat} {i:Nat} (hi:i≤l.length) (x:Nat):(putAt l i x).length=l.length+1:=by simp[putAt];omega
theorem putAt_get {l:List Nat} {i x t a:Nat} (hi:i≤l.length) (h:(putAt l i x)[t]? =some a):(t<i∧l[t]? =some a)∨(t=i∧a=x)∨(i<t∧l[t - 1]? =some a):=by
 unfold putAt at h;have ht:(l.take i).length=i:=(by rw[List.length_take];omega);rcases Nat.lt_trichotomy t i with q|q|q
 ·rw[List.getElem?_append_left (by omega),List.getElem?_take_of_lt q] at h;exact .inl ⟨q,h⟩
 ·subst q;rw[List.getElem?_append_right (by omega),ht] at h;simp at h;exact .inr (.inl ⟨rfl,h.symm⟩)
 ·rw[List.getElem?_append_right (by omega),ht] at h;obtain⟨d,rfl⟩:∃d,t=i+1+d:=⟨t - i - 1,by omega⟩;rw[show i+1+d - i=d+1 by omega,List.getElem?_cons_succ,List.getElem?_drop] at h;exact .inr (.inr ⟨q,by rw[show i+1+d - 1=i+d by omega];exact h⟩)
def numsI (l : List Nat) : List Value := l.map fun (n : Nat) => Value.int .i64 (n : Int)
theorem numsI_get {l:List Nat} {t a:Nat} (h:l[t]? =some a):(numsI l)[t]? =some (.int .i64 (a:Int)):=by simp[numsI,h]
theorem numsI_of {l:List Nat} {t:Nat} {v:Value} (h:(numsI l)[t]? =some v):∃a,l[t]? =some a∧v= .int .i64 (a:Int):=by
 simp only[numsI,List.getElem?_map,Option.map_eq_some_iff] at h;obtain⟨a,h1,h2⟩:=h;exact⟨a,h1,h2.symm⟩
theorem numsI_len (l:List Nat):(numsI l).length=l.length:=by simp[numsI]
theorem numsI_one (l:List Nat):∀v∈numsI l,v.oneCell'=true:=by
 intro v hv;simp only[numsI,List.mem_map] at hv;obtain⟨_,_,rfl⟩:=hv;rfl
theorem KAt.mkI {g cap:Nat} {l:List Nat} {W:World} (h1:l.length≤cap) (h2:cap≤maxLen) {cur:Array Value} (h3:W.heap[g]? =some (.cells cur 3 (0,0))) (h4:cur.size=cap) (h5:∀(i:Nat) a,l[i]? =some a→cur[i]? =some (.int .i64 (a:Int))):KAt KI g cap l W:=⟨h1,h2,cur,h3,by rw[h4];exact(Nat.mul_one _).symm,fun i a hi j u hu=>by
 have hj:j=0:=(by have:=(List.getElem?_eq_some_iff.1 hu).1;simp at this;exact this);subst hj;simp only[List.getElem?_cons_zero,Option.some.injEq] at hu;show cur[i*1+0]? =some u;rw[Nat.mul_one,Nat.add_zero,←hu];exact h5 i a hi⟩
theorem KAt.curI {g cap:Nat} {l:List Nat} {W:World} (h:KAt KI g cap l W):∃cur,W.heap[g]? =some (.cells cur 3 (0,0))∧cur.size=cap∧∀(i:Nat) a,l[i]? =some a→cur[i]? =some (.int .i64 (a:Int)):=by
 obtain⟨_,_,cur,h3,h4,h5⟩:=h;refine⟨cur,h3,by rw[h4];exact Nat.mul_one _,fun i a hi=>?_⟩;have:=h5 i a hi 0 _ rfl;rwa [show i*KI.n+0=i from Nat.mul_one i] at this
def InsRet (base : Nat) (w : World) (own : Option Nat) (k : List Nat) (e : Ending) (w' : World) : Prop := ∃ v, e = .returned v ∧ KOwns KI base v k w' ∧ w.grownBy w' own
theorem grown_trans {w w1 w2:World} {r:Option Nat} (h1:w.grownBy w1 r) (h2:w1.grownBy w2 r):w.grownBy w2 r:=⟨h2.os.trans h1.os,h2.tape.trans h1.tape,h2.output.trans h1.output,Nat.le_trans h1.size h2.size,fun k hk hn=>(h2.block k (Nat.lt_of_lt_of_le hk h1.size) hn).trans (h1.block k hk hn)⟩
theorem grown_drew (w:World) (r:Option Nat):w.grownBy w.drew r:=⟨rfl,rfl,rfl,Nat.le_refl _,fun _ _ _=>rfl⟩
theorem grown_new {w w1 w2:World} {r:Option Nat} (h1:w.grownBy w1 r) (h2:w1.grownBy w2 (some w.heap.size)):w.grownBy w2 r:=⟨h2.os.trans h1.os,h2.tape.trans h1.tape,h2.output.trans h1.output,Nat.le_trans h1.size h2.size,fun k hk hn=>(h2.block k (Nat.lt_of_lt_of_le hk h1.size) (fun e=>by injection e with e;omega)).trans (h1.block k hk hn)⟩
theorem grown_alloc (w:World) (o:Obj) (r:Option Nat):w.grownBy (w.alloc o) r:=⟨rfl,rfl,rfl,(below1 w o).size,fun k hk _=>(below1 w o).block k hk⟩
theorem madeI (n:Nat):(Builtin.zeroCells (Value.int .i64 0).cells n).size=n:=by simp[Builtin.zeroCells,Value.cells]
theorem stM_ins (cur:Array Value) {l:List Nat} {i x:Nat} (hi:i≤l.length) (hs:l.length+1≤cur.size) (h:∀t a,t<i→l[t]? =some a→cur[t]? =some (.int .i64 (a:Int))):∀(t:Nat) a,(putAt l i x)[t]? =some a→(stM (stM cur (i+1) ((numsI l).drop i)) i [.int .i64 (x:Int)])[t]? =some (.int .i64 (a:Int)):=fun t a ht=>by
 have hd:((numsI l).drop i).length=l.length - i:=(by rw[List.length_drop,numsI_len]);rcases putAt_get hi ht with⟨q,e⟩|⟨rfl,rfl⟩|⟨q,e⟩
 ·rw[stM_out _ _ _ _ (.inl q),stM_out _ _ _ _ (.inl (by omega))];exact h t a q e
 ·exact stM_in _ t _ 0 _ (by rw[stM_size];simp;omega) rfl
 ·rw[stM_out _ _ _ _ (.inr (by simp;omega))];have:=stM_in ((numsI l).drop i) (i+1) cur (t - i - 1) (.int .i64 (a:Int)) (by rw[hd];omega) (by rw[List.getElem?_drop,show i+(t - i - 1)=t - 1 by omega];exact numsI_get e);rwa [show i+1+(t - i - 1)=t by omega] at this
theorem stM_ins' (cur:Array Value) {l:List Nat} {i x:Nat} (hi:i≤l.length) (hs:l.length+1≤cur.size) (h:∀t a,t<i→l[t]? =some a→cur[t]? =some (.int .i64 (a:Int))):∀(t:Nat) a,(putAt l i x)[t]? =some a→(stM (stM cur i [.int .i64 (x:Int)]) (i+1) ((numsI l).drop i))[t]? =some (.int .i64 (a:Int)):=fun t a ht=>by
 have hd:((numsI l).drop i).length=l.length - i:=(by rw[List.length_drop,numsI_len]);rcases putAt_get hi ht with⟨q,e⟩|⟨rfl,rfl⟩|⟨q,e⟩
 ·rw[stM_out _ _ _ _ (.inl (by omega)),stM_out _ _ _ _ (.inl q)];exact h t a q e
 ·rw[stM_out _ _ _ _ (.inl (by omega))];exact stM_in _ t _ 0 _ (by simp;omega) rfl
 ·have:=stM_in ((numsI l).drop i) (i+1) (stM cur i [.int .i64 (x:Int)]) (t - i - 1) (.int .i64 (a:Int)) (by rw[hd,stM_size];omega) (by rw[List.getElem?_drop,show i+(t - i - 1)=t - 1 by omega];exact numsI_get e);rwa [show i+1+(t - i - 1)=t by omega] at this
theorem heap_drew {W:World} {g:Nat} {o:Option Obj} (h:W.heap[g]? =o):W.drew.heap[g]? =o:=h
theorem endGrow_at (w:World) (l:List Nat) (x cap:Nat) (hlen:l.length≤1000000):KAt KI w.heap.size (grownCap w (l.length+1) cap 3) (l++[x]) (w.drew.alloc (.cells ((numsI l++[Value.int .i64 (x:Int)]).toArray++Builtin.zeroCells (Value.int .i64 0).cells (grownCap w (l.length+1) cap 3 - (l.length+1))) 3)):=by
 have hge:=grownCap_ge w (l.length+1) cap 3;refine KAt.mkI (by simpa using hge) (grownCap_le_maxLen w _ _ _ (by unfold maxLen;omega)) (heap_alloc_new w.drew _) ?_ ?_
 ·rw[Array.size_append,madeI];simp[numsI_len];omega
 ·intro t a ha;have hlt:t<(numsI l++[Value.int .i64 (x:Int)]).length:=(by have:=(List.getElem?_eq_some_iff.1 ha).1;simpa [numsI_len] using this);rw[Array.getElem?_append_left (by simpa using hlt)];have:=numsI_get ha;unfold numsI at this ⊢;simpa using this
theorem insert_any (base:Nat) (v:Value) (l:List Nat) (i x vb:Nat) (hi:i≤l.length) (hlen:l.length≤1000000) (w:World) (hown:KOwns KI base v l w) (hb:base≤w.heap.size) (hv:Blk vb #[.int .i64 (x:Int)] 3 w) (hne:∀k,v.ownBlock=some k→vb≠k):Calls Tryz.prog 154 #[v,.int .i64 i,.slice (some ⟨vb,0,none⟩) 1 1] w (InsRet base w v.ownBlock (putAt l i x)):=by
 have hvs:∀j u,[Value.int .i64 (x:Int)][j]? =some u→w.cell? ⟨vb,0+j,none⟩=some u:=fun j u hj=>(by rw[Nat.zero_add,cell_of_row w vb j _ _ _ hv,←hj];simp);have h1v:∀u∈[Value.int .i64 (x:Int)],u.oneCell'=true:=fun u hu=>(by simp at hu;subst hu;rfl);rcases hown.2 with⟨rfl,h0⟩|⟨g,cap,cur,rfl,hg,hcur,hcap,hmax,hsz,htk⟩
 ·have hl0:l=[]:=List.length_eq_zero_iff.1 h0;subst hl0;have hi0:i=0:=(by simpa using hi);subst hi0;refine(Any2.slices_Insert_int_end_grow insInt none 0 0 vb 0 1 1 [] [.int .i64 (x:Int)] w (by decide) (by decide) (by decide) (by decide) rfl rfl (fun _=>rfl) (fun a e=>by cases e) hvs h1v).mono ?_;rintro e w' ⟨rfl,rfl⟩;exact⟨_,rfl,KAt.owns okI (endGrow_at w [] x 0 (by simp)) hb,grown_new (grown_drew w _) (grown_alloc _ _ _)⟩
 ·have A:=(KAt.of okI hown).1;obtain⟨cur',hc1,hc2,hc3⟩:=A.curI;have ecur:cur'=cur:=(by rw[hcur] at hc1;injection hc1 with hc1;injection hc1 with hc1;exact hc1.symm);subst ecur;have hcs:∀j u,(numsI l)[j]? =some u→w.cell? ⟨g,0+j,none⟩=some u:=fun j u hj=>(by obtain⟨a,h1,rfl⟩:=numsI_of hj;rw[Nat.zero_add,cell_of_row w g j _ _ _ hcur];exact hc3 j a h1);have hsome:∀j,j<cap→(w.cell? ⟨g,j,none⟩).isSome=true:=fun j hj=>(by rw[cell_of_row w g j _ _ _ hcur];simp[show j<cur'.size by omega]);have hfz:∀j,w.frozen? ⟨g,j,none⟩=false:=fun j=>frozen_of_row _ g _ _ _ hcur;have hc63:cap≤9223372036854775807:=(by unfold maxLen at hmax;omega);have hvg:vb≠g:=hne g rfl;by_cases hroom:l.length+1≤cap
  ·by_cases hin:i=l.length
   ·subst hin;refine(Any2.slices_Insert_int_end_room insInt g 0 l.length cap vb 0 1 1 [.int .i64 (x:Int)] w (by decide) hroom hc63 rfl (fun j hj=>by rw[Nat.zero_add];exact hsome _ (by omega)) (fun j hj=>hfz _) hvs h1v).mono ?_;rintro e w' ⟨rfl,rfl⟩;refine⟨_,rfl,?_,by rw[Nat.zero_add];exact grown_stM _ _ _⟩;have e:putAt l l.length x=l++[x]:=(by simp[putAt]);have P:=KAt.push okI A (i:=l.length) rfl (by omega) x;rw[e,Nat.zero_add];have P':=KAt.owns okI P hg;rw[List.length_append] at P';have e2:l.length*KI.n=l.length:=Nat.mul_one _;rw[e2] at P';exact P'
   ·have hlt:i<l.length:=(by omega);refine(Any2.slices_Insert_int_shift insInt g 0 l.length cap i vb 0 1 1 (numsI l) [.int .i64 (x:Int)] w hlt (by decide) hroom hc63 hvg (numsI_len l) rfl hcs (fun j hj=>by rw[Nat.zero_add];exact hsome _ (by omega)) (fun j hj=>hfz _) hvs (numsI_one l) h1v 3 3 1 cap (by simp[World.shape?,show w.heap[vb]? =_ from hv]) (by simp[World.shape?,hcur,hc2]) (by omega) (frozen_of_row _ vb _ _ _ hv) (frozen_of_row _ vb _ _ _ hv)).mono ?_;rintro e w' ⟨rfl,rfl⟩;rw[Nat.zero_add,Nat.zero_add];refine⟨_,rfl,?_,grown_trans (grown_drew w _) (grown_trans (grown_stM _ _ _) (grown_stM _ _ _))⟩;have P:KAt KI g cap (putAt l i x) ((w.drew.setCells g (i+1) ((numsI l).drop i)).setCells g i [.int .i64 (x:Int)]):=KAt.mkI (by rw[putAt_len hi];exact hroom) hmax (heap_stM _ _ _ _ (heap_stM _ _ _ _ (show w.drew.heap[g]? =_ from hcur))) (by rw[stM_size,stM_size];exact hc2) (stM_ins cur' hi (by omega) fun t a _ h=>hc3 t a h);have P':=KAt.owns okI P hg;rw[putAt_len hi] at P';exact P'
  ·by_cases hin:i=l.length
   ·subst hin;refine(Any2.slices_Insert_int_end_grow insInt (some ⟨g,0,none⟩) l.length cap vb 0 1 1 (numsI l) [.int .i64 (x:Int)] w (by decide) hcap (by omega) (by omega) (numsI_len l) rfl (fun e=>by cases e) (fun a e j u hj=>by injection e with e;subst e;rw[Addr.add_mid];exact hcs j u hj) hvs h1v).mono ?_;rintro e w' ⟨rfl,rfl⟩;have e:putAt l l.length x=l++[x]:=(by simp[putAt]);refine⟨_,rfl,?_,grown_new (grown_drew w _) (grown_alloc _ _ _)⟩;have P:=endGrow_at w l x cap hlen;rw[e];have P':=KAt.owns okI P hb;rw[List.length_append] at P';exact P'
   ·have hlt:i<l.length:=(by omega);refine(Any2.slices_Insert_int_grow insInt g 0 l.length cap i vb 0 1 1 (numsI l) [.int .i64 (x:Int)] w hlt (by decide) hcap (by omega) (by omega) (numsI_len l) rfl hcs hvs (numsI_one l) h1v).mono ?_;rintro e w' ⟨rfl,rfl⟩;refine⟨_,rfl,?_,grown_new (grown_alloc w _ _) (grown_trans (grown_drew _ _) (grown_trans (grown_stM _ _ _) (grown_trans (grown_drew _ _) (grown_stM _ _ _))))⟩;have hge:=grownCap_ge w (l.length+1) cap 3;have hsr:(((numsI l).take i).toArray++Builtin.zeroCells (Value.int .i64 0).cells (l.length+1 - i)++Builtin.zeroCells (Value.int .i64 0).cells (grownCap w (l.length+1) cap 3 - (l.length+1))).size=grownCap w (l.length+1) cap 3:=(by rw[Array.size_append,Array.size_append,madeI,madeI];simp[numsI_len];omega);have hrow:∀t a,t<i→l[t]? =some a→(((numsI l).take i).toArray++Builtin.zeroCells (Value.int .i64 0).cells (l.length+1 - i)++Builtin.zeroCells (Value.int .i64 0).cells (grownCap w (l.length+1) cap 3 - (l.length+1)))[t]? =some (.int .i64 (a:Int)):=fun t a ht ha=>(by have h3:t<((numsI l).take i).length:=(by rw[List.length_take,numsI_len];omega);rw[Array.getElem?_append_left (by rw[Array.size_append];simp;simp at h3;omega),Array.getElem?_append_left (by simpa using h3)];have:=numsI_get ha;simp[List.getElem?_take_of_lt ht,this]);have P:=KAt.mkI (l:=putAt l i x) (cap:=grownCap w (l.length+1) cap 3) (by rw[putAt_len hi];exact hge) (grownCap_le_maxLen w _ _ _ (by unfold maxLen;omega)) (heap_stM ((numsI l).drop i) (i+1) _ _ (heap_drew (heap_stM [Value.int .i64 (x:Int)] i _ _ (heap_drew (heap_alloc_new w (.cells (((numsI l).take i).toArray++Builtin.zeroCells (Value.int .i64 0).cells (l.length+1 - i)++Builtin.zeroCells (Value.int .i64 0).cells (grownCap w (l.length+1) cap 3 - (l.length+1))) 3)))))) (by rw[stM_size,stM_size];exact hsr) (stM_ins' _ hi (by rw[hsr];omega) hrow);have P':=KAt.owns okI P hb;rw[putAt_len hi] at P';exact P'
def SbS (B0 : Nat) (v : Value) (l : List Rm) (wb : Nat) (r : Rm) (W : World) : Prop := Blk B0 #[v] 27 W ∧ KLies KR v l W ∧ Blk wb (rca r) 88 W
section
variable {B0 : Nat} {v : Value} {l : List Rm} {wb : Nat} {r : Rm} {W W' : World}
theorem SbS.below (hb:Below W.heap.size W W') (h:SbS B0 v l wb r W):SbS B0 v l wb r W':=⟨h.1.below hb,h.2.1.below okR hb,h.2.2.below hb⟩
theorem SbS.cell (h:SbS B0 v l wb r W):W.cell? ⟨B0,0,none⟩=some v:=(cell_of_row W B0 0 _ _ _ h.1).trans rfl
end
theorem KLies.cellI {b o n cap:Nat} {l:List Nat} {W:World} (h:KLies KI (.slice (some ⟨b,o,none⟩) n cap) l W) {i x:Nat} (hi:l[i]? =some x):W.cell? ⟨b,o+i,none⟩=some (.int .i64 (x:Int)):=by
 have:=h.at' hi 0 _ rfl;rwa [Nat.add_zero,show i*KI.n=i from Nat.mul_one i] at this
set_option maxRecDepth 100000 in
set_option maxHeartbeats 1000000 in
theorem sort1_any (B0:Nat) (v:Value) (l:List Rm) (i:Nat) (x r:Rm) (hi:l[i]? =some x) (w:World) (hB:Blk B0 #[v] 27 w) (hl:KLies KR v l w):Calls Tryz.prog 153 #[.int .i64 (i:Int),.agg (rca r),.pointer (some ⟨B0,0,none⟩)] w fun e w'=>e= .returned (.int .i64 (rOrd x.u r.u))∧Below w.heap.size w w':=by
 obtain⟨p,cap,rfl⟩:=hl.form;obtain⟨b,o,rfl,_⟩:=hl.at hi;have hlt:i<l.length:=(List.getElem?_eq_some_iff.1 hi).1;have hltI:(i:Int)<(l.length:Int):=(by omega);have HI:=qH hi;have HS:=qH (show SbS B0 (.slice (some ⟨b,o,none⟩) l.length cap) l w.heap.size r (w.alloc (.cells (rca r) 88)) from⟨hB.below (below1 _ _),hl.below okR (below1 _ _),Blk.new _ _ _⟩);have HB:=qH (below1 w (.cells (rca r) 88));clear hi hl hB;(go_enter Tryz.func153,Tryz.ntmps153);(go_upto_region 1 with fail);refine wp_region_held_drew (S:=SbS B0 (.slice (some ⟨b,o,none⟩) l.length cap) l w.heap.size r) (by kernel_rfl) (SbS.below (Below.refl _ _).drew HS.out) (fun hS=>?_);have HB1:=qH HB.out.drew;clear HB HS;generalize(w.alloc (.cells (rca r) 88)).drew=W at*;refine sV 0 rfl (fun w hSw=>by have hc:=hSw.cell;go_simp<;>with_reducible rfl) hS ?_;refine sR 1 hS ?_;refine sR 2 hS ?_;refine sV 3 rfl (fun w hSw=>execRow rfl b (o+i*32) rfl (rcl x) _ (hSw.2.1.at' HI.out) Tryz.underlying88 rfl infoR) hS ?_;refine sV 4 rfl (fun w hSw=>execRow0 rfl _ rfl hSw.2.2 Tryz.underlying88 rfl infoR) hS ?_;refine sC 5 (fun K hK=>?_);go_simp;refine(order_any x r _).mono ?_;rintro e w1 ⟨rfl,hw1⟩;refine hK.out _ _ (SbS.below hw1 hS) (fun hS=>?_);clear hK K;(try simp only[Act.put,sA,sB,sE]);refine sR 6 hS ?_;refine sD ?_;have HB2:=qH (HB1.out.trans (hw1.mono HB1.out.size));clear hS hw1;(go_wp2_with fail);go_ret;exact⟨rfl,HB2.out⟩
def BsS (w0 : World) (pv : Value) (P : List Nat) (wb : Nat) (r : Rm) (W : World) : Prop := KLies KI pv P W ∧ Blk wb (rca r) 88 W ∧ Below w0.heap.size w0 W
theorem BsS.below {w0:World} {pv:Value} {P:List Nat} {wb:Nat} {r:Rm} {W W':World} (hb:Below W.heap.size W W') (h:BsS w0 pv P wb r W):BsS w0 pv P wb r W':=⟨h.1.below okI hb,h.2.1.below hb,h.2.2.trans (hb.mono h.2.2.size)⟩
def BsRet (P : List Nat) (ord : Nat → Int) (w : World) (e : Ending) (w' : World) : Prop :=
  ∃ (c : Nat) (f : Bool), e = .returned (.tuple #[.int .i64 (c : Int), .bool f]) ∧ c ≤ P.length ∧ (∀ (j : Nat) x, j < c → P[j]? = some x → ord x < 0) ∧ (∀ (j : Nat) x, c ≤ j → P[j]? = some x → 0 ≤ ord x) ∧ (f = true ↔ ∃ x, P[c]? = some x ∧ ord x = 0) ∧ Below w.heap.size w w'
set_option maxRecDepth 100000 in
set_option maxHeartbeats 2000000 in
theorem bsearch_any (pv:Value) (P:List Nat) (r:Rm) (ord:Nat→Int) (cb:Array Value) (hP:P.length≤1000000) (w:World) (hl:KLies KI pv P w) (hcall:∀W,Below w.heap.size w W→∀(j x:Nat),P[j]? =some x→Calls Tryz.prog 153 (#[.int .i64 (x:Int),.agg (rca r)]++cb) W fun e w'=>e= .returned (.int .i64 (ord x))∧Below W.heap.size W w') (hmono:∀(i j x y:Nat),i≤j→P[i]? =some x→P[j]? =some y→ord y<0→ord x<0):Calls Tryz.prog 152 #[pv,.agg (rca r),.func (.func 153) #[] cb] w (BsRet P ord w):=by
 obtain⟨p,cap,rfl⟩:=hl.form;have HS:=qH (show BsS w (.slice p P.length cap) P w.heap.size r (w.alloc (.cells (rca r) 88)) from⟨hl.below okI (below1 _ _),Blk.new _ _ _,below1 _ _⟩);have HC:=qH hcall;have HM:=qH hmono;have eg:∀args w,(callFunc 153 args).run Tryz.prog w= .ok (.enter 153 args) w:=enters_of Tryz.func153 (by kernel_rfl) rfl;clear hl hcall hmono;(go_enter Tryz.func152,Tryz.ntmps152);(go_wp2_with fail);go_loopg [9,10] P.length (fun k s9 s10 wr=>∃lo hi:Nat,s9= .int .i64 lo∧s10= .int .i64 hi∧lo≤hi∧hi≤P.length∧hi - lo≤k∧((∀(j:Nat) x,j<lo→P[j]? =some x→ord x<0)∧(∀(j:Nat) x,hi≤j→P[j]? =some x→0≤ord x))∧BsS w (.slice p P.length cap) P w.heap.size r wr)
 case atStart=>exact⟨0,P.length,rfl,rfl,Nat.zero_le _,Nat.le_refl _,by omega,⟨fun j _ h=>absurd h (Nat.not_lt_zero _),fun j x h1 h2=>by have:=(List.getElem?_eq_some_iff.1 h2).1;omega⟩,HS.out⟩
 case round=>
  clear HS;obtain⟨lo,hi,rfl,rfl,hlh,hin,hg,hq,hs⟩:=hrel;have HQ:=qH hq;have HS:=qH hs;clear hq hs;by_cases hlt:lo<hi
  ·have hltI:(lo:Int)<(hi:Int):=(by omega);obtain⟨m,hm⟩:∃m:Nat,m=(lo+hi) / 2:=⟨_,rfl⟩;have hmI:((lo:Int)+(hi:Int)) / 2=(m:Int):=(by omega);have hml:m<P.length:=(by omega);have hmlI:(m:Int)<(P.length:Int):=(by omega);have HM1:=qH (show lo≤m∧m<hi by omega);obtain⟨x,hx⟩:=lt_some hml;obtain⟨b,o,rfl,_⟩:=HS.out.1.at hx;have HY:=qH hx;clear hx hm;(go_upto_region 5 with fail);refine wp_region_held_drew (S:=BsS w (.slice (some ⟨b,o,none⟩) P.length cap) P w.heap.size r) (by kernel_rfl) (BsS.below (Below.refl _ _).drew HS.out) (fun hS=>?_);clear HS;generalize wr.drew=W at*;refine sR 0 hS ?_;refine sR 1 hS ?_;refine sR 2 hS ?_;refine sR 3 hS ?_;refine sV 4 rfl (fun w hSw=>by have hc:=hSw.1.cellI HY.out;go_simp<;>with_reducible rfl) hS ?_;refine sV 5 rfl (fun w hSw=>execRow0 rfl _ rfl hSw.2.1 Tryz.underlying88 rfl infoR) hS ?_;refine sC 6 (fun K hK=>?_);go_simp;refine(HC.out _ hS.2.2 _ _ HY.out).mono ?_;rintro e w1 ⟨rfl,hw1⟩;refine hK.out _ _ (BsS.below hw1 hS) (fun hS=>?_);clear hK K hw1;(try simp only[Act.put,sA,sB,sE]);refine sR 7 hS ?_;refine sD ?_;have HS1:=qH hS;clear hS;by_cases hyx:ord x<0
   ·have HL:=qH (fun(j:Nat) z (hj:j<m+1) (hz:P[j]? =some z)=>HM.out j m z x (by omega) hz HY.out hyx);(go_wp2_with fail);go_roundg (hi - (m+1))
    case measure=>have:=HM1.out;omega
    case rel=>have:=HM1.out;exact⟨m+1,hi,by go_num,rfl,by omega,hin,Nat.le_refl _,⟨fun j z hj hz=>HL.out j z hj hz,HQ.out.2⟩,HS1.out⟩
   ·have HL:=qH (fun(j:Nat) z (hj:m≤j) (hz:P[j]? =some z)=>Int.not_lt.1 fun h=>hyx (HM.out m j x z hj HY.out hz h));(go_wp2_with fail);go_roundg (m - lo)
    case measure=>have:=HM1.out;omega
    case rel=>have:=HM1.out;exact⟨lo,m,rfl,by go_num,by omega,by omega,Nat.le_refl _,⟨HQ.out.1,fun j z hj hz=>HL.out j z hj hz⟩,HS1.out⟩
  ·have hltI:¬(lo:Int)<(hi:Int):=(by omega);obtain rfl:hi=lo:=(by omega);by_cases hn:hi<P.length
   ·have hnI:(hi:Int)<(P.length:Int):=(by omega);obtain⟨x,hx⟩:=lt_some hn;obtain⟨b,o,rfl,_⟩:=HS.out.1.at hx;have HY:=qH hx;clear hx;(go_upto_region 8 with fail);refine wp_region_held_drew (S:=BsS w (.slice (some ⟨b,o,none⟩) P.length cap) P w.heap.size r) (by kernel_rfl) (BsS.below (Below.refl _ _).drew HS.out) (fun hS=>?_);clear HS;generalize wr.drew=W at*;refine sR 0 hS ?_;refine sR 1 hS ?_;refine sR 2 hS ?_;refine sR 3 hS ?_;refine sR 4 hS ?_;refine sR 5 hS ?_;refine sR 6 hS ?_;refine sR 7 hS ?_;refine sR 8 hS ?_;refine sV 9 rfl (fun w hSw=>by have hc:=hSw.1.cellI HY.out;go_simp<;>with_reducible rfl) hS ?_;refine sV 10 rfl (fun w hSw=>execRow0 rfl _ rfl hSw.2.1 Tryz.underlying88 rfl infoR) hS ?_;refine sC 11 (fun K hK=>?_);go_simp;refine(HC.out _ hS.2.2 _ _ HY.out).mono ?_;rintro e w1 ⟨rfl,hw1⟩;refine hK.out _ _ (BsS.below hw1 hS) (fun hS=>?_);clear hK K hw1;(try simp only[Act.put,sA,sB,sE]);refine sR 12 hS ?_;refine sR 13 hS ?_;refine sR 14 hS ?_;refine sR 15 hS ?_;refine sD ?_;have HS1:=qH hS;clear hS;(go_wp2_with fail);(go_ret2);refine⟨hi,_,rfl,hin,HQ.out.1,HQ.out.2,?_,HS1.out.2.2⟩;rw[HY.out];constructor
    ·intro h;exact⟨x,rfl,by simpa using h⟩
    ·rintro⟨z,hz,h0⟩;injection hz with hz;subst hz;simpa using h0
   ·have hnI:¬(hi:Int)<(P.length:Int):=(by omega);(go_upto_region 8 with fail);refine wp_region_held_drew (S:=BsS w (.slice p P.length cap) P w.heap.size r) (by kernel_rfl) (BsS.below (Below.refl _ _).drew HS.out) (fun hS=>?_);clear HS;generalize wr.drew=W at*;refine sR 0 hS ?_;refine sR 1 hS ?_;refine sR 2 hS ?_;refine sR 3 hS ?_;refine sR 4 hS ?_;refine seqSkip 5 rfl (by kernel_rfl) (by kernel_rfl) (by kernel_rfl) (fun _ _ _ h=>h) rfl hS ?_;(try simp only[Act.put,sA,sB,sE]);refine seqSkip 6 rfl (by kernel_rfl) (by kernel_rfl) (by kernel_rfl) (fun _ _ _ h=>h) rfl hS ?_;(try simp only[Act.put,sA,sB,sE]);refine seqSkip 7 rfl (by kernel_rfl) (by kernel_rfl) (by kernel_rfl) (fun _ _ _ h=>h) rfl hS ?_;(try simp only[Act.put,sA,sB,sE]);refine seqSkip 8 rfl (by kernel_rfl) (by kernel_rfl) (by kernel_rfl) (fun _ _ _ h=>h) rfl hS ?_;(try simp only[Act.put,sA,sB,sE]);refine seqSkip 9 rfl (by kernel_rfl) (by kernel_rfl) (by kernel_rfl) (fun _ _ _ h=>h) rfl hS ?_;(try simp only[Act.put,sA,sB,sE]);refine seqSkip 10 rfl (by kernel_rfl) (by kernel_rfl) (by kernel_rfl) (fun _ _ _ h=>h) rfl hS ?_;(try simp only[Act.put,sA,sB,sE]);refine seqSkip 11 rfl (by kernel_rfl) (by kernel_rfl) (by kernel_rfl) (fun _ _ _ h=>h) rfl hS ?_;(try simp only[Act.put,sA,sB,sE]);refine seqSkip 12 rfl (by kernel_rfl) (by kernel_rfl) (by kernel_rfl) (fun _ _ _ h=>h) rfl hS ?_;(try simp only[Act.put,sA,sB,sE]);refine sR 13 hS ?_;refine sR 14 hS ?_;refine sR 15 hS ?_;refine sD ?_;have HS1:=qH hS;clear hS;(go_wp2_with fail);(go_ret2);refine⟨hi,false,rfl,hin,HQ.out.1,HQ.out.2,?_,HS1.out.2.2⟩;rw[List.getElem?_eq_none (by omega)];simp
section
variable {α : Type} {ord : α → α → Int}
theorem ins_set (x:α):∀(L:List α) (c:Nat) (y:α),(∀(j:Nat) z,j<c→L[j]? =some z→ord z x<0)→L[c]? =some y→ord y x=0→ins ord x L=L.set c x
 |[],c,y,_,h,_=>by simp at h
 |a::L,0,y,_,h,h0=>by simp only[List.getElem?_cons_zero,Option.some.injEq] at h;subst h;unfold ins;rw[if_neg (by omega),if_pos h0];rfl
 |a::L,c+1,y,hl,h,h0=>by unfold ins;rw[if_pos (hl 0 a (by omega) rfl),ins_set x L c y (fun j z hj hz=>hl (j+1) z (by omega) (by simpa using hz)) (by simpa using h) h0];rfl
theorem ins_put (x:α):∀(L:List α) (c:Nat),c≤L.length→(∀(j:Nat) z,j<c→L[j]? =some z→ord z x<0)→(∀y,L[c]? =some y→0<ord y x)→ins ord x L=L.take c++x::L.drop c
 |[],0,_,_,_=>rfl
 |[],c+1,hc,_,_=>by simp at hc
 |a::L,0,_,_,h=>by have:=h a rfl;unfold ins;rw[if_neg (by omega),if_neg (by omega)];rfl
 |a::L,c+1,hc,hl,h=>by unfold ins;rw[if_pos (hl 0 a (by omega) rfl),ins_put x L c (by simpa using hc) (fun j z hj hz=>hl (j+1) z (by omega) (by simpa using hz)) (fun y hy=>h y (by simpa using hy))];rfl
end
structure PlS (l : List Rm) (r : Nat) (P : List Nat) : Prop where
  lt : ∀ i ∈ P, i < l.length
  is : P.map (nthU l) = tblOf ((l.take r).map (·.u))
  len : P.length ≤ r
theorem PlS.start (l:List Rm):PlS l 0 []:=⟨fun i h=>(by cases h),rfl,Nat.le_refl _⟩
section
variable {l : List Rm} {r : Nat} {P : List Nat} {x : Rm}
theorem PlS.skip (h:PlS l r P) (hx:l[r]? =some x) (hs:sndR x.u=false):PlS l (r+1) P:=⟨h.lt,by rw[h.is,take_map_succ hx];unfold tblOf;rw[List.filter_append];simp[hs],by have:=h.len;omega⟩
theorem tbl_snoc (hx:l[r]? =some x) (hs:sndR x.u=true):tblOf ((l.take (r+1)).map (·.u))=ins rOrd x.u (tblOf ((l.take r).map (·.u))):=by
 rw[take_map_succ hx];unfold tblOf;rw[List.filter_append,show[x.u].filter sndR=[x.u] by simp[hs],srtL_snoc]
theorem PlS.get (h:PlS l r P) {j i:Nat} (hj:P[j]? =some i):∃y,l[i]? =some y∧(tblOf ((l.take r).map (·.u)))[j]? =some y.u:=by
 have hi:=h.lt i (List.mem_of_getElem? hj);refine⟨l[i],List.getElem?_eq_getElem hi,?_⟩;rw[←h.is,List.getElem?_map,hj];simp[nthU_at (List.getElem?_eq_getElem hi)]
theorem PlS.mono (h:PlS l r P) (u:Ru) (i j a b:Nat) (hij:i≤j) (ha:P[i]? =some a) (hb:P[j]? =some b) (hlt:rOrd (nthU l b) u<0):rOrd (nthU l a) u<0:=by
 obtain⟨y,h1,h2⟩:=h.get ha;obtain⟨z,h3,h4⟩:=h.get hb;rw[nthU_at h3] at hlt;rw[nthU_at h1];by_cases e:i=j
 ·subst e;rw[h2] at h4;injection h4 with h4;rw[h4];exact hlt
 ·have hs:=tblOf_srt ((l.take r).map (·.u));obtain⟨q1,e1⟩:=List.getElem?_eq_some_iff.1 h2;obtain⟨q2,e2⟩:=List.getElem?_eq_some_iff.1 h4;have:=List.pairwise_iff_getElem.1 hs i j q1 q2 (by omega);rw[e1,e2] at this;exact rOrd_ordd.lt_trans this hlt
theorem PlS.pre (h:PlS l r P) {u:Ru} {c:Nat} (hc:∀(j:Nat) i,j<c→P[j]? =some i→rOrd (nthU l i) u<0):∀(j:Nat) z,j<c→(tblOf ((l.take r).map (·.u)))[j]? =some z→rOrd z u<0:=fun j z hj hz=>by
 rw[←h.is,List.getElem?_map,Option.map_eq_some_iff] at hz;obtain⟨i,hi,rfl⟩:=hz;exact hc j i hj hi
theorem PlS.swap (h:PlS l r P) (hx:l[r]? =some x) (hs:sndR x.u=true) {c i:Nat} (hc:∀(j:Nat) i,j<c→P[j]? =some i→rOrd (nthU l i) x.u<0) (hi:P[c]? =some i) (h0:rOrd (nthU l i) x.u=0):PlS l (r+1) (P.set c r):=by
 have hr:=(List.getElem?_eq_some_iff.1 hx).1;refine⟨fun k hk=>?_,?_,by have:=h.len;simp;omega⟩
 ·rcases List.mem_or_eq_of_mem_set hk with hk|rfl
  ·exact h.lt k hk
  ·exact hr
 ·obtain⟨y,h1,h2⟩:=h.get hi;rw[tbl_snoc hx hs,List.map_set,h.is,nthU_at hx];rw[nthU_at h1] at h0;exact(ins_set x.u _ c y.u (h.pre hc) h2 h0).symm
theorem PlS.put (h:PlS l r P) (hx:l[r]? =some x) (hs:sndR x.u=true) {c:Nat} (hcl:c≤P.length) (hc:∀(j:Nat) i,j<c→P[j]? =some i→rOrd (nthU l i) x.u<0) (hd:∀(j:Nat) i,c≤j→P[j]? =some i→0≤rOrd (nthU l i) x.u) (hn:¬∃i,P[c]? =some i∧rOrd (nthU l i) x.u=0):PlS l (r+1) (putAt P c r):=by
 have hr:=(List.getElem?_eq_some_iff.1 hx).1;refine⟨fun k hk=>?_,?_,by rw[putAt_len hcl];have:=h.len;omega⟩
 ·unfold putAt at hk;rcases List.mem_append.1 hk with hk|hk
  ·exact h.lt k (List.mem_of_mem_take hk)
  ·rcases List.mem_cons.1 hk with rfl|hk
   ·exact hr
   ·exact h.lt k (List.mem_of_mem_drop hk)
 ·have hL:(tblOf ((l.take r).map (·.u))).length=P.length:=(by rw[←h.is,List.length_map]);rw[tbl_snoc hx hs,ins_put x.u _ c (by omega) (h.pre hc) (fun y hy=>?_)]
  ·unfold putAt;rw[List.map_append,List.map_cons,List.map_take,List.map_drop,h.is,nthU_at hx]
  ·rw[←h.is,List.getElem?_map,Option.map_eq_some_iff] at hy;obtain⟨i,hi,rfl⟩:=hy;have q:=hd c i (Nat.le_refl _) hi;have:rOrd (nthU l i) x.u≠0:=fun e=>hn ⟨i,hi,e⟩;omega
end
def SrS (w : World) (v pv : Value) (P : List Nat) (W : World) : Prop := Blk w.heap.size #[v] 27 W ∧ KOwns KI (w.heap.size + 1) pv P W ∧ Below w.heap.size w W
section
variable {w W W' : World} {v pv pv' : Value} {P P' : List Nat}
theorem SrS.below (h:SrS w v pv P W) (hb:Below W.heap.size W W'):SrS w v pv P W':=⟨h.1.below hb,h.2.1.below hb,h.2.2.trans (hb.mono h.2.2.size)⟩
theorem SrS.grown (h:SrS w v pv P W) (ho:KOwns KI (w.heap.size+1) pv' P' W') (hg:W.grownBy W' pv.ownBlock):SrS w v pv' P' W':=⟨Blk.grown h.1 h.2.1 (by omega) hg,ho,h.2.2.grown hg h.2.2.size fun k e=>by have:=h.2.1.ge k e;omega⟩
theorem SrS.cell (h:SrS w v pv P W):W.cell? ⟨w.heap.size,0,none⟩=some v:=(cell_of_row W w.heap.size 0 _ _ _ h.1).trans rfl
end
theorem zeroI:((Tryz.prog.info? 3).bind (·.zero)).map (·.cells)=some #[Value.int .i64 0]:=by kernel_rfl
theorem fillI (x:Int):Instr.fill (fun i'=>some (i'*1,1)) ((Array.range (1*1)).map ((#[Value.int .i64 0]:Array Value)[· % (#[Value.int .i64 0]:Array Value).size]!)) [(0,.int .i64 x)]=some #[.int .i64 x]:=by kernel_rfl
theorem env_of {w W:World} (ht:Tab w) (hz:0<w.heap.size) (hb:Below w.heap.size w W):Tab W∧0<W.heap.size:=(Env.start ht hz).predK W hb
set_option maxRecDepth 100000 in
set_option maxHeartbeats 2000000 in
theorem rsort_any (v:Value) (l:List Rm) (hlen:l.length≤100000) (hw:WfRL l) (w:World) (hl:RLies v l w) (ht:Tab w) (hz:0<w.heap.size):Calls Tryz.prog 139 #[v] w (TabRet w (tblOf (l.map (·.u)))):=by
 obtain⟨p,cap,rfl⟩:=hl.1.form;have HL:=qH hl;have HW:=qH hw;have HT:=qH (fun(W:World) (hb:Below w.heap.size w W)=>env_of ht hz hb);have HS:=qH (show SrS w (.slice p l.length cap) (.slice none 0 0) [] (w.alloc (.cells #[.slice p l.length cap] 27)) from⟨Blk.new _ _ _,KOwns.nil _ _,below1 _ _⟩);have hc0:=HS.out.cell;clear hl hw ht;(go_enter Tryz.func139,Tryz.ntmps139);(go_wp2_with fail);clear hc0;go_loopg [3,13] l.length (fun k pv i wr=>∃(r:Nat) (P:List Nat),r+k=l.length∧i= .int .i64 r∧PlS l r P∧SrS w (.slice p l.length cap) pv P wr)
 case atStart=>exact⟨0,[],by omega,rfl,PlS.start l,HS.out⟩
 case round=>
  clear HS;obtain⟨r,P,hr,rfl,hp,hs⟩:=hrel;have HP:=qH hp;have HS:=qH hs;clear hp hs;by_cases hlt:r<l.length
  ·have hltI:(r:Int)<(l.length:Int):=(by omega);obtain⟨x,hx⟩:=lt_some hlt;have HL1:=qH (HL.out.below HS.out.2.2);obtain⟨b,o,rfl,hrg⟩:=HL1.out.1.at hx;have HR:=qH hrg;have HX:=qH hx;have HA:=qH ((HL1.out.acts hx).below (below1 wr (.cells (rca x) 88)));have HWx:=qH (HW.out.at hx);clear hrg hx HL1;(go_upto_region 5 with(first|(refine wpList_load_mid rfl 88 _ rfl b (o+r*32) rfl (rcl x) _ HR.out Tryz.underlying88 rfl infoR ?_)|(refine wpList_store_row rfl 88 _ _ rfl wr.heap.size (rca x) rfl rfl 88 _ (heap_alloc_new _ _) (by kernel_rfl) rfl (rca_one _) ?_;rw[World.setRow_alloc_new])));have RX:=qH (Blk.new wr (rca x) 88);have HS1:=qH (HS.out.below (below1 wr (.cells (rca x) 88)));clear HR HS;generalize wr.alloc (.cells (rca x) 88)=W at*;have HC:=qH (rsound_any x HWx.out W HA.out (HT.out W HS1.out.2.2).1 (HT.out W HS1.out.2.2).2);clear HA HWx;cases hsn:sndR x.u
   ·rw[hsn] at HC;have HP1:=qH (HP.out.skip HX.out hsn);clear hsn;(go_wp2_with(first|(refine wpList_load_row rfl 88 _ rfl wr.heap.size rfl 88 (rca x) (0,0) _ RX.out Tryz.underlying88 rfl infoR ?_)|(go_at_call 104;refine HC.out.mono ?_;rintro e w2 ⟨rfl,hw2⟩;refine Hid.out ?_)));have HS2:=qH (HS1.out.below hw2);clear hw2 HC RX HS1;refine qH ?_;(go_wp2_with fail);go_roundg (l.length - (r+1))
    case measure=>omega
    case rel=>exact⟨r+1,P,by omega,by go_num,HP1.out,HS2.out⟩
   ·rw[hsn] at HC;have HSN:=qH hsn;clear hsn;(go_wp2_with(first|(refine wpList_load_row rfl 88 _ rfl wr.heap.size rfl 88 (rca x) (0,0) _ RX.out Tryz.underlying88 rfl infoR ?_)|(go_at_call 104;refine HC.out.mono ?_;rintro e w2 ⟨rfl,hw2⟩;refine Hid.out ?_)));have HS2:=qH (HS1.out.below hw2);have RX2:=qH (RX.out.below hw2);clear hw2 HC RX HS1;have HBS:=qH (bsearch_any _ P x (fun i=>rOrd (nthU l i) x.u) #[.pointer (some ⟨w.heap.size,0,none⟩)] (by have:=HP.out.len;omega) w2 (HS2.out.2.1.lies okI) (fun W hb j i hj=>by obtain⟨y,h1,_⟩:=HP.out.get hj;have h:=sort1_any w.heap.size (.slice (some ⟨b,o,none⟩) l.length cap) l i y x h1 W (HS2.out.1.below hb) ((HL.out.below HS2.out.2.2).below hb).1;show Calls Tryz.prog 153 #[.int .i64 (i:Int),.agg (rca x),.pointer (some ⟨w.heap.size,0,none⟩)] W fun e w'=>e= .returned (.int .i64 (rOrd (nthU l i) x.u))∧Below W.heap.size W w';rw[nthU_at h1];exact h) (fun i j a b' hij ha hb hlt=>HP.out.mono x.u i j a b' hij ha hb hlt));refine qH ?_;(go_wp2_with(first|(refine wpList_load_row rfl 88 _ rfl wr.heap.size rfl 88 (rca x) (0,0) _ RX2.out Tryz.underlying88 rfl infoR ?_)|(go_at_call 152;refine HBS.out.mono ?_;rintro e w3 ⟨c,f,rfl,hcl,hc1,hc2,hf,hw3⟩;refine Hid.out ?_)));have HS3:=qH (HS2.out.below hw3);have HF:=qH (And.intro hcl (And.intro hc1 (And.intro hc2 hf)));clear hw3 HBS HS2 RX2 hcl hc1 hc2 hf;cases f
    ·have HP1:=qH (HP.out.put HX.out HSN.out HF.out.1 HF.out.2.1 HF.out.2.2.1 (fun h=>Bool.false_ne_true (HF.out.2.2.2.2 h)));have HI:=qH (insert_any (w.heap.size+1) u3 P c r w3.heap.size HF.out.1 (by have:=HP.out.len;omega) (w3.alloc (.cells #[.int .i64 (r:Int)] KI.T)) (HS3.out.2.1.below (below1 _ _)) (by have:=HS3.out.1.lt;have:=(below1 w3 (.cells #[.int .i64 (r:Int)] KI.T)).size;omega) (Blk.new _ _ _) (fun k hk=>by
      have:=HS3.out.2.1;rcases this.2 with⟨e,_⟩|⟨g,cp,cur,e,_,e3,_⟩
      ·rw[e] at hk;cases hk
      ·rw[e] at hk;injection hk with hk;have:=(Array.getElem?_eq_some_iff.1 e3).1;show w3.heap.size≠k;have hk':g=k:=hk;omega))
     have HS4:=qH (HS3.out.below (below1 w3 (.cells #[.int .i64 (r:Int)] KI.T)));clear HF HS3;refine qH ?_;(go_wp2_with(refine kbuild KI okI 1 #[.int .i64 0] zeroI rfl _ rfl [(0,.int .i64 (r:Int))] rfl #[.int .i64 (r:Int)] (by decide) (by decide) (fillI r) ?_));generalize w3.alloc (.cells #[.int .i64 (r:Int)] KI.T)=W4 at*;refine HI.out.mono ?_;rintro e w5 ⟨v5,rfl,ho5,hg5⟩;have HS5:=qH (HS4.out.grown ho5 hg5);clear ho5 hg5 HS4 HI;(go_wp2_with fail);go_roundg (l.length - (r+1))
     case measure=>omega
     case rel=>exact⟨r+1,_,by omega,by go_num,HP1.out,HS5.out⟩
    ·obtain⟨i,hi,h0⟩:=HF.out.2.2.2.1 rfl;have HP1:=qH (HP.out.swap HX.out HSN.out HF.out.2.1 hi h0);have hcP:c<P.length:=(List.getElem?_eq_some_iff.1 hi).1;have hcI:(c:Int)<(P.length:Int):=(by omega);have hown:=HS3.out.2.1;rcases hown.2 with⟨_,e⟩|⟨g,cp,cur,rfl,_⟩
     ·exfalso;omega
     have hA:=KAt.of okI hown;have hth:w3.there g c 1:=(by have h:=hA.1.there (i:=c) (by have:=hA.1.1;omega);rwa [show c*KI.n=c from Nat.mul_one c] at h);have hA2:=KAt.owns okI (KAt.set okI hA.1 hcP r) hA.2;rw[List.length_set,show c*KI.n=c from Nat.mul_one c] at hA2;have HS4:=qH (HS3.out.grown (pv':= .slice (some ⟨g,0,none⟩) P.length cp) (W':=w3.setCell ⟨g,c,none⟩ (.int .i64 (r:Int))) hA2 (grown_stM [.int .i64 (r:Int)] c w3));have HTH:=qH hth;clear hi h0 HF hown hA hA2 hth HS3;refine qH ?_;(go_wp2_with(refine storeCell rfl 3 _ _ rfl g c (.int .i64 (r:Int)) rfl rfl rfl HTH.out infoI ?_;refine Hid.out ?_));generalize w3.setCell ⟨g,c,none⟩ (.int .i64 (r:Int))=W4 at*;clear HTH;refine qH ?_;(go_wp2_with fail);go_roundg (l.length - (r+1))
     case measure=>omega
     case rel=>exact⟨r+1,_,by omega,by go_num,HP1.out,HS4.out⟩
  ·have hltI:¬(r:Int)<(l.length:Int):=(by omega);obtain rfl:r=l.length:=(by omega);generalize wr=W0 at*;have HI:=qH (show P.map (nthU l)=tblOf (l.map (·.u)) by have:=HP.out.is;rwa [List.take_length] at this);have hPl:P.length≤100000:=(by have:=HP.out.len;omega);obtain⟨pp,pc,rfl⟩:=HS.out.2.1.form;(go_upto_region 12 with(refine kmake KR okR rfl _ _ rfl P.length rfl rfl (by omega) (fun w1 ha hb hlt=>?_)));have HC:=qH (show CpS W0.heap.size W0 W0.heap.size P.length [] w1 from⟨ha,fun r hr=>(by cases hr),hb,Nat.le_refl _⟩);clear ha hb hlt;(go_wp2_with fail);go_loopg [44] P.length (fun k i wr=>∃(r:Nat) (L:List Rm),r+k=P.length∧L.length=r∧i= .int .i64 r∧L.map (·.u)=(P.take r).map (nthU l)∧CpS W0.heap.size W0 W0.heap.size P.length L wr)
   case atStart=>exact⟨0,[],by omega,rfl,rfl,rfl,HC.out⟩
   case round=>
    obtain⟨r,L,hr,hL,rfl,hu,hs⟩:=hrel;have HU:=qH hu;have HQ:=qH hs;have HLL:=qH hL;clear hu hs HC hL;by_cases hlt2:r<P.length
    ·have hlt2I:(r:Int)<(P.length:Int):=(by omega);obtain⟨i,hi⟩:=lt_some hlt2;obtain⟨x,hx,_⟩:=HP.out.get hi;have hil:i<l.length:=(List.getElem?_eq_some_iff.1 hx).1;have hilI:(i:Int)<(l.length:Int):=(by omega);have HK:=qH ((HS.out.2.1.lies okI).below okI HQ.out.2.2.1);obtain⟨b1,o1,rfl,_⟩:=HK.out.at hi;have HK1:=HK.out.cellI hi;have HBx:=qH (HS.out.1.below HQ.out.2.2.1);have hcb:wr.cell? ⟨w.heap.size,0,none⟩=some (.slice p l.length cap):=(cell_of_row wr w.heap.size 0 _ _ _ HBx.out).trans rfl;have HL1:=qH ((HL.out.below HS.out.2.2).below HQ.out.2.2.1);obtain⟨b,o,rfl,hrg⟩:=HL1.out.1.at hx;have HR:=qH hrg;have HX:=qH (And.intro hi hx);have HC:=qH (rclone_any x (HW.out.at hx).room wr (HL1.out.acts hx));clear hrg hx hi HL1 HK;(go_wp2_with(first|(refine wpList_load_mid rfl 88 _ rfl b (o+i*32) rfl (rcl x) _ HR.out Tryz.underlying88 rfl infoR ?_)|(go_at_call 67;refine HC.out.mono ?_;rintro e w2 ⟨y,rfl,hy,ho,hw2⟩;refine Hid.out ?_)));have HQ2:=qH (HQ.out.below hw2);have HO:=qH (ho.mono (show W0.heap.size+1≤wr.heap.size from HQ.out.lt));have HY:=qH hy;clear ho hw2 hy HC HQ HR HK1 hcb HBx;refine qH ?_;(go_wp2_with(refine kstore KR okR infoR rfl _ _ rfl W0.heap.size r P.length L y rfl rfl HQ2.out.1 hlt2 ?_;refine Hid.out ?_));have HQ3:=qH (HQ2.out.push HO.out HLL.out.symm hlt2);clear HQ2 HO;generalize w2.setCells W0.heap.size (r*32) (rcl y)=W3 at*;refine qH ?_;(go_wp2_with fail);go_roundg (P.length - (r+1))
     case measure=>omega
     case rel=>refine⟨r+1,L++[y],by omega,by simp[HLL.out],by go_num,?_,HQ3.out⟩;rw[List.take_add_one,HX.out.1,List.map_append,List.map_append,HU.out];simp[HY.out,nthU_at HX.out.2]
    ·have hlt2I:¬(r:Int)<(P.length:Int):=(by omega);have HT2:=qH (show r=P.length by omega);(go_wp2_with fail);go_ret;have e:L.length=P.length:=HLL.out.trans HT2.out;refine⟨W0.heap.size,L,by rw[e];rfl,?_,?_⟩
     ·rw[HU.out,HT2.out,List.take_length,HI.out]
     ·rw[e];have hq:=HQ.out;have hb:=HS.out.2.2;exact⟨hq.1,hq.2.1,hb.trans (hq.2.2.1.mono hb.size),hb.size⟩
end Go.Proofs.YtomnpfbebimpkaaGreatDoor
