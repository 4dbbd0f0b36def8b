/- Several of my texts as one: CubeVal, CubeHas, CubeMeet, CubeEq, CubeWith, CubeAns, CubeMath, CubeThr, CubeOrd, CubeFix, BitLen, CubeBit, CubeParM. -/
import Derived.Test.YtomnpfbebimpkaaGreatDoorPackHead
import Derived.Deep.MidRow
import Derived.Outline
import Derived.StillTailTactics
import Derived.Laws.StructEq
import Derived.Laws.BitsAllLaws
import Derived.Test.YtomnpfbebimpkaaGreatDoorProg
import Derived.Lib.Strings
import Derived.Lib.Slices
import Derived.Lib.Small
import Derived.Lib.Walk
import Derived.Lib.BitFns
import Derived.Test.YtomnpfbebimpkaaGreatDoorSq
/-
  Cubes by value: their cells, and the walk of the program's Sound.
-/
namespace Go.Proofs.YtomnpfbebimpkaaGreatDoor
set_option maxRecDepth 20000
open Go.RowKit
def cl (a : Nat → Int) : List Value := (List.range 24).map fun j => .int .u64 (a j)
def cc (a : Nat → Int) : Array Value := (cl a).toArray
def care (a : Nat → Int) : Nat → Int := fun j => a (12 + j)
theorem cc_at (a:Nat→Int) (j:Nat) (h:j<24):(cc a)[j]? =some (.int .u64 (a j)):=by
 simp[cc,cl,h]
theorem cc_size (a:Nat→Int):(cc a).size=24:=by simp[cc,cl]
theorem cc_one (a:Nat→Int):(cc a).all (·.oneCell')=true:=by
 simp[cc,cl,Value.oneCell']
theorem cellC {w:World} {g j:Nat} {a:Nat→Int} {t:TypeId} {fr:Nat×Nat} (hg:w.heap[g]? =some (.cells (cc a) t fr)) (hj:j<24):w.cell? ⟨g,j,none⟩=some (.int .u64 (a j)):=by
 rw[cell_of_row w g j _ t fr hg,cc_at a j hj]
theorem hl_at (a:Nat→Int) {j:Nat} {v:Value} (h:(hl a)[j]? =some v):j<12∧v= .int .u64 (a j):=by
 have hj:j<12:=(by have:=(List.getElem?_eq_some_iff.1 h).1;simpa [hl] using this);have e:=hc_at a j hj;have e':(hl a)[j]? =some (.int .u64 (a j)):=(by rw[←e,←Array.getElem?_toList];rfl);rw[h] at e';exact⟨hj,Option.some.inj e'⟩
theorem valR {w:World} {g:Nat} {a:Nat→Int} {t:TypeId} {fr:Nat×Nat} (hg:w.heap[g]? =some (.cells (cc a) t fr)):w.rangeAt g 0 (hl a):=fun j v hv=>by
 obtain⟨hj,rfl⟩:=hl_at a hv;rw[Nat.zero_add];exact cellC hg (by omega)
theorem careR {w:World} {g:Nat} {a:Nat→Int} {t:TypeId} {fr:Nat×Nat} (hg:w.heap[g]? =some (.cells (cc a) t fr)):w.rangeAt g 12 (hl (care a)):=fun j v hv=>by
 obtain⟨hj,rfl⟩:=hl_at (care a) hv;exact cellC hg (by omega)
theorem idxHl (a:Nat→Int) (j:Nat) (hj:j<12) (w:World):(Instr.index 35 (.agg (hl a).toArray) (.int .i64 j)).run Tryz.prog w= .ok (.int .u64 (a j)) w:=idxHead a j hj w
theorem loadMidG {P:Program} {ops:Array Oper} {rest:List Oper} {op:Oper} {a:Act} {w:World} {Q:Exit→Act→World→Prop} (hw:Region.wanted op (yielded ops a.tmps)=true) (ty:TypeId) (x:Operand) (ho:op.op= .load ty x) (b o:Nat) (hx:a.eval x= .pointer (some ⟨b,o,none⟩)) (cs:List Value) (d:TypeDesc) (hc:w.rangeAt b o cs) (hu:P.underlying ty=some d) (hd:d.isRow=true) (hi:(P.info? ty).map (·.size)=some cs.length) (h:wpList P ops Q rest (a.put op.dst (.agg cs.toArray)) w):wpList P ops Q (op::rest) a w:=wpList_step fun K hK=>by rw[if_pos hw];exact wp_load_mid ty x ho b o hx cs d hc hu hd hi (hK _ _ h)
def overB (a : Nat → Int) (j : Nat) : Bool := bits .andNot .u64 (a j) (a (12 + j)) != 0
def csnd (a : Nat → Int) : Bool := sndB (care a) && sndB a && (List.range 12).all fun j => !overB a j
theorem csnd_care {a:Nat→Int} (h:sndB (care a)=false):csnd a=false:=by simp[csnd,h]
theorem csnd_val {a:Nat→Int} (h:sndB a=false):csnd a=false:=by simp[csnd,h]
theorem csnd_over {a:Nat→Int} {j:Nat} (hj:j<12) (h:overB a j=true):csnd a=false:=by
 have:((List.range 12).all fun j=>!overB a j)=false:=(by rw[List.all_eq_false];exact⟨j,by simpa using hj,by simp[h]⟩);simp[csnd,this]
theorem csnd_yes {a:Nat→Int} (h1:sndB (care a)=true) (h2:sndB a=true) (h:∀j,j<12→overB a j=false):csnd a=true:=by
 have:((List.range 12).all fun j=>!overB a j)=true:=(by rw[List.all_eq_true];intro j hj;simp[h j (by simpa using hj)]);simp[csnd,this,h1,h2]
set_option maxHeartbeats 400000 in
theorem csound_care (a:Nat→Int) (h0:∀j,0≤a j) (hs:sndB (care a)=false) (w:World) (ht:Tab w) (hz:0<w.heap.size):Calls Tryz.prog 114 #[.agg (cc a)] w fun e w'=>e= .returned (.bool false)∧Below w.heap.size w w':=by
 have HT:=qH (ht.below hz (below1 w (.cells (cc a) 37)));have H0:=qH h0;clear ht h0;(go_enter Tryz.func114,Tryz.ntmps114);(go_wp2_with(first|(refine wpList_load_mid rfl 35 _ rfl w.heap.size 12 rfl (hl (care a)) _ (careR (heap_alloc_new _ _)) Tryz.underlying35 rfl infoHead ?_)|(go_at_call 103;refine(sound_any (care a) (fun j=>H0.out _) _ HT.out (Nat.lt_of_lt_of_le hz (by simp))).mono ?_;rintro e w1 ⟨rfl,hw1⟩)));go_ret;exact⟨rfl,(below1 _ _).trans (hw1.mono (by simp))⟩
set_option maxHeartbeats 400000 in
theorem csound_val (a:Nat→Int) (h0:∀j,0≤a j) (hs:sndB (care a)=true) (hv:sndB a=false) (w:World) (ht:Tab w) (hz:0<w.heap.size):Calls Tryz.prog 114 #[.agg (cc a)] w fun e w'=>e= .returned (.bool false)∧Below w.heap.size w w':=by
 have HE:=qH ((show Env w w from⟨ht,hz,Below.refl _ _⟩).below (below1 w (.cells (cc a) 37)));have H0:=qH h0;clear ht h0;(go_enter Tryz.func114,Tryz.ntmps114);(go_wp2_with(refine wpList_load_mid rfl 35 _ rfl w.heap.size 12 rfl (hl (care a)) _ (careR (heap_alloc_new _ _)) Tryz.underlying35 rfl infoHead ?_));refine(sound_any (care a) (fun j=>H0.out _) _ HE.out.tab HE.out.lt).mono ?_;rintro e w1 ⟨rfl,hw1⟩;have K1:=qH (kept1 hw1);have HE1:=qH (HE.out.below hw1);clear hw1 HE;(go_wp2_with(first|(refine loadMidG rfl 35 _ rfl w.heap.size 0 rfl (hl a) _ (valR K1.out.1) Tryz.underlying35 rfl infoHead ?_)|(go_at_call 103;refine(sound_any a H0.out _ HE1.out.tab HE1.out.lt).mono ?_;rintro e w2 ⟨rfl,hw2⟩)));go_ret;exact⟨rfl,(HE1.out.below hw2).2.2⟩
set_option maxHeartbeats 400000 in
theorem csound_loop (a:Nat→Int) (h0:∀j,0≤a j) (hs:sndB (care a)=true) (hv:sndB a=true) (w:World) (ht:Tab w) (hz:0<w.heap.size):Calls Tryz.prog 114 #[.agg (cc a)] w fun e w'=>e= .returned (.bool (csnd a))∧Below w.heap.size w w':=by
 have HE:=qH ((show Env w w from⟨ht,hz,Below.refl _ _⟩).below (below1 w (.cells (cc a) 37)));have H0:=qH h0;have HY:=qH (csnd_yes hs hv);clear ht h0;(go_enter Tryz.func114,Tryz.ntmps114);(go_wp2_with(refine wpList_load_mid rfl 35 _ rfl w.heap.size 12 rfl (hl (care a)) _ (careR (heap_alloc_new _ _)) Tryz.underlying35 rfl infoHead ?_));refine(sound_any (care a) (fun j=>H0.out _) _ HE.out.tab HE.out.lt).mono ?_;rintro e w1 ⟨rfl,hw1⟩;have K1:=qH (kept1 hw1);have HE1:=qH (HE.out.below hw1);clear hw1 HE;(go_wp2_with(refine loadMidG rfl 35 _ rfl w.heap.size 0 rfl (hl a) _ (valR K1.out.1) Tryz.underlying35 rfl infoHead ?_));refine(sound_any a H0.out _ HE1.out.tab HE1.out.lt).mono ?_;rintro e w2 ⟨rfl,hw2⟩;have K2:=qH ((hw2.block _ K1.out.2.1).trans K1.out.1);have HB:=qH (HE1.out.below hw2).2.2;clear hw2 HE1 K1;(go_wp2_with(refine wpList_load_mid rfl 35 _ rfl w.heap.size 0 rfl (hl a) _ (valR K2.out) Tryz.underlying35 rfl infoHead ?_));go_loop [17] (fun i=>∃r:Nat,r≤12∧(∀j,j<r→overB a j=false)∧i= .int .i64 r) (fun i=>(12 - intOf i).toNat)
 case atStart=>exact⟨0,by omega,fun j h=>absurd h (by omega),rfl⟩
 case round=>
  obtain⟨r,hr,hq,rfl⟩:=hrel;have HQ:=qH hq;clear hq;by_cases hlt:r<12
  ·have hidx:=idxHl a r hlt;have hcell:=cellC K2.out (show 12+r<24 by omega);cases ho:overB a r
   ·have ho':(bits .andNot .u64 (a r) (a (12+r)) != 0)=false:=ho;have HO:=qH ho;clear ho;go_wp2;go_round
    case rel=>
     refine⟨r+1,by omega,fun j hj=>?_,by go_num⟩;by_cases e:j=r
     ·rw[e];exact HO.out
     ·exact HQ.out j (by omega)
    case measure=>simp[intOf];omega
   ·have ho':(bits .andNot .u64 (a r) (a (12+r)) != 0)=true:=ho;have HO:=qH (csnd_over hlt ho);clear ho;go_wp2;go_ret;exact⟨ret_bool HO.out.symm,HB.out⟩
  ·go_wp2;go_ret;exact⟨ret_bool (HY.out fun j hj=>HQ.out j (by omega)).symm,HB.out⟩
theorem csound_any (a:Nat→Int) (h0:∀j,0≤a j) (w:World) (ht:Tab w) (hz:0<w.heap.size):Calls Tryz.prog 114 #[.agg (cc a)] w fun e w'=>e= .returned (.bool (csnd a))∧Below w.heap.size w w':=by
 cases hs:sndB (care a)
 ·rw[csnd_care hs];exact csound_care a h0 hs w ht hz
 ·cases hv:sndB a
  ·rw[csnd_val hv];exact csound_val a h0 hs hv w ht hz
  ·exact csound_loop a h0 hs hv w ht hz
def Blk (b : Nat) (cs : Array Value) (t : TypeId) (W : World) : Prop := W.heap[b]? = some (.cells cs t (0, 0))
section
variable {b : Nat} {cs : Array Value} {t : TypeId} {W W' : World}
theorem Blk.lt (h:Blk b cs t W):b<W.heap.size:=(Array.getElem?_eq_some_iff.1 (show W.heap[b]? =some _ from h)).1
theorem Blk.below (h:Blk b cs t W) (hb:Below W.heap.size W W'):Blk b cs t W':=(hb.block b h.lt).trans h
theorem Blk.new (W:World) (cs:Array Value) (t:TypeId):Blk W.heap.size cs t (W.alloc (.cells cs t)):=heap_alloc_new _ _
theorem Blk.new2 (W:World) (o:Obj) (cs:Array Value) (t:TypeId):Blk (W.heap.size+1) cs t ((W.alloc o).alloc (.cells cs t)):=heap_alloc2_new _ _ _
theorem Blk.old (h:Blk b cs t W) (o:Obj):Blk b cs t (W.alloc o):=h.below (below1 _ _)
theorem Blk.drew (h:Blk b cs t W):Blk b cs t W.drew:=h
theorem Blk.drewN (h:Blk b cs t W):∀n,Blk b cs t (W.drewN n)
 |0=>h
 |n+1=>h.drewN n
theorem Env.drewN {w W:World} (h:Env w W):∀n,Env w (W.drewN n)
 |0=>h
 |n+1=>(h.drewN n).drew
theorem Env.start {w:World} (ht:Tab w) (hz:0<w.heap.size):Env w w:=⟨ht,hz,Below.refl _ _⟩
theorem Env.alloc {w W:World} (h:Env w W) (o:Obj):Env w (W.alloc o):=h.below (below1 _ _)
theorem Env.kept {w W:World} (h:Env w W):Below w.heap.size w W:=h.2.2
end
def offB (c h : Nat → Int) (j : Nat) : Bool := bits .and .u64 (h j) (c (12 + j)) != c j
def hasB (c h : Nat → Int) : Bool := csnd c && sndB h && (List.range 12).all fun j => !offB c h j
theorem hasB_cube {c h:Nat→Int} (e:csnd c=false):hasB c h=false:=by simp[hasB,e]
theorem hasB_head {c h:Nat→Int} (e:sndB h=false):hasB c h=false:=by simp[hasB,e]
theorem hasB_off {c h:Nat→Int} {j:Nat} (hj:j<12) (e:offB c h j=true):hasB c h=false:=by
 have:((List.range 12).all fun j=>!offB c h j)=false:=(by rw[List.all_eq_false];exact⟨j,by simpa using hj,by simp[e]⟩);simp[hasB,this]
theorem hasB_yes {c h:Nat→Int} (h1:csnd c=true) (h2:sndB h=true) (e:∀j,j<12→offB c h j=false):hasB c h=true:=by
 have:((List.range 12).all fun j=>!offB c h j)=true:=(by rw[List.all_eq_true];intro j hj;simp[e j (by simpa using hj)]);simp[hasB,this,h1,h2]
theorem loadRowG {P:Program} {ops:Array Oper} {rest:List Oper} {o:Oper} {a:Act} {w:World} {Q:Exit→Act→World→Prop} (hw:Region.wanted o (yielded ops a.tmps)=true) (ty:TypeId) (x:Operand) (ho:o.op= .load ty x) (g:Nat) (hx:a.eval x= .pointer (some ⟨g,0,none⟩)) (t:TypeId) (cs:Array Value) (fr:Nat×Nat) {d:TypeDesc} (hg:w.heap[g]? =some (.cells cs t fr)) (hu:P.underlying ty=some d) (hd:d.isRow=true) (hi:(P.info? ty).map (·.size)=some cs.size) (h:wpList P ops Q rest (a.put o.dst (.agg cs)) w):wpList P ops Q (o::rest) a w:=wpList_step fun K hK=>by rw[if_pos hw];exact wp_load_row ty x ho g hx t cs fr d hg hu (by cases d<;>first|rfl|(simp[TypeDesc.isRow] at hd)) hi (hK _ _ h)
theorem infoCube:(Tryz.prog.info? 37).map (·.size)=some 24:=by kernel_rfl
set_option maxHeartbeats 400000 in
theorem chas_cube (c h:Nat→Int) (c0:∀j,0≤c j) (w:World) (ht:Tab w) (hz:0<w.heap.size) (hs:csnd c=false):Calls Tryz.prog 78 #[.agg (cc c),.agg (hc h)] w fun e w'=>e= .returned (.bool false)∧Below w.heap.size w w':=by
 have HE:=qH (((Env.start ht hz).alloc (.cells (cc c) 37)).alloc (.cells (hc h) 35));have R0:=qH ((Blk.new w (cc c) 37).old (.cells (hc h) 35));have C0:=qH c0;clear ht c0;(go_enter Tryz.func78,Tryz.ntmps78);(go_wp2_with(refine wpList_load_row rfl 37 _ rfl w.heap.size rfl 37 (cc c) (0,0) _ R0.out Tryz.underlying37 rfl (by kernel_rfl) ?_));refine(csound_any c C0.out _ HE.out.tab HE.out.lt).mono ?_;rintro e w1 ⟨rfl,hw1⟩;go_wp2;go_ret;exact⟨rfl,(HE.out.below hw1).kept⟩
set_option maxHeartbeats 400000 in
theorem chas_head (c h:Nat→Int) (c0:∀j,0≤c j) (h0:∀j,0≤h j) (w:World) (ht:Tab w) (hz:0<w.heap.size) (hs:csnd c=true) (hh:sndB h=false):Calls Tryz.prog 78 #[.agg (cc c),.agg (hc h)] w fun e w'=>e= .returned (.bool false)∧Below w.heap.size w w':=by
 have HE:=qH (((Env.start ht hz).alloc (.cells (cc c) 37)).alloc (.cells (hc h) 35));have R0:=qH ((Blk.new w (cc c) 37).old (.cells (hc h) 35));have C0:=qH c0;have R1:=qH (Blk.new2 w (.cells (cc c) 37) (hc h) 35);have H0:=qH h0;clear ht c0 h0;(go_enter Tryz.func78,Tryz.ntmps78);(go_wp2_with(refine wpList_load_row rfl 37 _ rfl w.heap.size rfl 37 (cc c) (0,0) _ R0.out Tryz.underlying37 rfl (by kernel_rfl) ?_));refine(csound_any c C0.out _ HE.out.tab HE.out.lt).mono ?_;rintro e w1 ⟨rfl,hw1⟩;have R1':=qH (R1.out.below hw1);have HE':=qH (HE.out.below hw1);clear hw1 HE R0 R1;(go_wp2_with(refine loadRowG rfl 35 _ rfl (w.heap.size+1) rfl 35 (hc h) (0,0) R1'.out Tryz.underlying35 rfl (by kernel_rfl) ?_));refine(sound_any h H0.out _ HE'.out.tab HE'.out.lt).mono ?_;rintro e w2 ⟨rfl,hw2⟩;go_wp2;go_ret;exact⟨rfl,(HE'.out.below hw2).kept⟩
set_option maxHeartbeats 400000 in
theorem chas_loop (c h:Nat→Int) (c0:∀j,0≤c j) (h0:∀j,0≤h j) (w:World) (ht:Tab w) (hz:0<w.heap.size) (hs:csnd c=true) (hh:sndB h=true):Calls Tryz.prog 78 #[.agg (cc c),.agg (hc h)] w fun e w'=>e= .returned (.bool (hasB c h))∧Below w.heap.size w w':=by
 have HE:=qH (((Env.start ht hz).alloc (.cells (cc c) 37)).alloc (.cells (hc h) 35));have R0:=qH ((Blk.new w (cc c) 37).old (.cells (hc h) 35));have C0:=qH c0;have R1:=qH (Blk.new2 w (.cells (cc c) 37) (hc h) 35);have H0:=qH h0;have HY:=qH (hasB_yes hs hh);clear ht c0 h0;(go_enter Tryz.func78,Tryz.ntmps78);(go_wp2_with(refine wpList_load_row rfl 37 _ rfl w.heap.size rfl 37 (cc c) (0,0) _ R0.out Tryz.underlying37 rfl (by kernel_rfl) ?_));refine(csound_any c C0.out _ HE.out.tab HE.out.lt).mono ?_;rintro e w1 ⟨rfl,hw1⟩;have R0':=qH (R0.out.below hw1);have R1':=qH (R1.out.below hw1);have HE':=qH (HE.out.below hw1);clear hw1 HE R0 R1;(go_wp2_with(refine loadRowG rfl 35 _ rfl (w.heap.size+1) rfl 35 (hc h) (0,0) R1'.out Tryz.underlying35 rfl (by kernel_rfl) ?_));refine(sound_any h H0.out _ HE'.out.tab HE'.out.lt).mono ?_;rintro e w2 ⟨rfl,hw2⟩;have R02:=qH (R0'.out.below hw2);have R12:=qH (R1'.out.below hw2);have HE2:=qH (HE'.out.below hw2);clear hw2 HE' R0' R1';(go_wp2_with(refine wpList_load_row rfl 35 _ rfl (w.heap.size+1) rfl 35 (hc h) (0,0) _ R12.out Tryz.underlying35 rfl (by kernel_rfl) ?_));clear hs hh;go_loopw [16] (fun i wr=>∃r:Nat,r≤12∧(∀j,j<r→offB c h j=false)∧i= .int .i64 r∧Blk w.heap.size (cc c) 37 wr∧Env w wr) (fun i _=>(12 - intOf i).toNat)
 case atStart=>exact⟨0,by omega,fun j h=>absurd h (by omega),rfl,R02.out,HE2.out⟩
 case round=>
  obtain⟨r,hr,hq,rfl,hrow,henv⟩:=hrel;have HQ:=qH hq;have HR:=qH hrow;have HV:=qH henv;clear hq hrow henv;by_cases hlt:r<12
  ·have hidx:=idxHead h r hlt;have k1:=cellC HR.out (show 12+r<24 by omega);have k2:=cellC HR.out (show r<24 by omega);cases ho:offB c h r
   ·have ho':(bits .and .u64 (h r) (c (12+r)) != c r)=false:=ho;have HO:=qH ho;clear ho;go_wp2;(go_quiet (fail));go_wp2;go_roundw
    case rel=>
     refine⟨r+1,by omega,fun j hj=>?_,by go_num,HR.out.drewN _,HV.out.drewN _⟩;by_cases e:j=r
     ·rw[e];exact HO.out
     ·exact HQ.out j (by omega)
    case measure=>simp[intOf];omega
   ·have ho':(bits .and .u64 (h r) (c (12+r)) != c r)=true:=ho;have HO:=qH (hasB_off hlt ho);clear ho;go_wp2;(go_quiet (fail));go_wp2;go_ret;exact⟨ret_bool HO.out.symm,(HV.out.drewN _).kept⟩
  ·go_wp2;go_ret;exact⟨ret_bool (HY.out fun j hj=>HQ.out j (by omega)).symm,HV.out.kept⟩
theorem chas_any (c h:Nat→Int) (c0:∀j,0≤c j) (h0:∀j,0≤h j) (w:World) (ht:Tab w) (hz:0<w.heap.size):Calls Tryz.prog 78 #[.agg (cc c),.agg (hc h)] w fun e w'=>e= .returned (.bool (hasB c h))∧Below w.heap.size w w':=by
 cases hs:csnd c
 ·rw[hasB_cube hs];exact chas_cube c h c0 w ht hz hs
 ·cases hv:sndB h
  ·rw[hasB_head hv];exact chas_head c h c0 h0 w ht hz hs hv
  ·exact chas_loop c h c0 h0 w ht hz hs hv
theorem Tab.setRow {W:World} (h:Tab W) {g:Nat} (hg:0≠g) (cs:Array Value):Tab (W.setRow g cs):=⟨fun k hk=>⟨(cell_setRow_other W g cs _ hg).trans (h.1 k hk).1,(cell_setRow_other W g cs _ hg).trans (h.1 k hk).2⟩,by
 obtain⟨t,fr,hf⟩:=h.2;exact⟨t,fr,(setRow_other _ _ _ _ hg).trans hf⟩⟩
theorem Env.setRow {w W:World} (h:Env w W) (hw:0<w.heap.size) {g:Nat} (hg:w.heap.size≤g) (cs:Array Value):Env w (W.setRow g cs):=⟨h.1.setRow (by omega) cs,by rw[setRow_size];exact h.2.1,below_setRow h.2.2 hg cs⟩
theorem belowDrewN (W:World):∀n,Below W.heap.size W (W.drewN n)
 |0=>Below.refl _ _
 |n+1=>(belowDrewN W n).drew
theorem Tab.setCell {W:World} (h:Tab W) {g k:Nat} (hg:0≠g) (v:Value):Tab (W.setCell ⟨g,k,none⟩ v):=by
 have hb:(W.setCell ⟨g,k,none⟩ v).heap[0]? =W.heap[0]?:=heap_setCell_other W _ _ v hg;refine⟨fun j hj=>⟨(World.cell?_of_block (a:=⟨0,j*2,none⟩) hb).trans (h.1 j hj).1,(World.cell?_of_block (a:=⟨0,j*2+1,none⟩) hb).trans (h.1 j hj).2⟩,?_⟩;obtain⟨t,fr,hf⟩:=h.2;exact⟨t,fr,hb.trans hf⟩
theorem cc_ext {x:Array Value} {a:Nat→Int} (hs:x.size=24) (h:∀j,j<24→x[j]? =some (.int .u64 (a j))):x=cc a:=by
 apply Array.ext_getElem?;intro i;by_cases hi:i<24
 ·rw[h i hi,cc_at a i hi]
 ·rw[Array.getElem?_eq_none (by omega),Array.getElem?_eq_none (by rw[cc_size];omega)]
theorem cc_set (a:Nat→Int) (v:Int) (k:Nat) (_:k<24):(cc a).setIfInBounds k (.int .u64 v)=cc (upd a k v):=by
 refine cc_ext (by rw[Array.size_setIfInBounds,cc_size]) fun j hj=>?_;rw[Array.getElem?_setIfInBounds,cc_size];unfold upd;by_cases e:k=j
 ·subst e;simp[hj]
 ·rw[if_neg e,cc_at a j hj,if_neg (fun h=>e h.symm)]
section
variable {b : Nat} {a : Nat → Int} {t : TypeId} {W : World}
theorem Blk.cset (h:Blk b (cc a) t W) {k:Nat} (hk:k<24) (v:Int):Blk b (cc (upd a k v)) t (W.setCell ⟨b,k,none⟩ (.int .u64 v)):=by
 unfold Blk;rw[heap_setCell_same W b k (cc a) t _ h,cc_set a v k hk]
theorem Blk.cother {cs:Array Value} (h:Blk b cs t W) {g k:Nat} (hg:b≠g) (v:Value):Blk b cs t (W.setCell ⟨g,k,none⟩ v):=(heap_setCell_other W ⟨g,k,none⟩ b v hg).trans h
theorem Blk.rset {cs:Array Value} (h:Blk b cs t W) (ds:Array Value):Blk b ds t (W.setRow b ds):=setRow_heap _ _ _ _ _ _ h
end
def clashB (a b : Nat → Int) (j : Nat) : Bool := bits .and .u64 (bits .and .u64 (bits .xor .u64 (a j) (b j)) (a (12 + j))) (b (12 + j)) != 0
def metB (a b : Nat → Int) : Bool := csnd a && csnd b && (List.range 12).all fun j => !clashB a b j
def orC (a b : Nat → Int) : Nat → Int := fun j => bits .or .u64 (a j) (b j)
def metV (a b : Nat → Int) : Nat → Int := if metB a b then orC a b else zh
def orTo (a b : Nat → Int) (r : Nat) : Nat → Int := fun j => if j < r ∨ (12 ≤ j ∧ j < 12 + r) then orC a b j else 0
theorem orTo_zero (a b:Nat→Int):orTo a b 0=zh:=by
 funext j;simp[orTo,zh];omega
theorem orTo_succ (a b:Nat→Int) (r:Nat) (h:r<12):upd (upd (orTo a b r) (12+r) (orC a b (12+r))) r (orC a b r)=orTo a b (r+1):=by
 funext j;unfold upd orTo;by_cases e1:j=r
 ·subst e1;simp
 ·by_cases e2:j=12+r
  ·subst e2;simp
  ·rw[if_neg e1,if_neg e2];by_cases h:j<r∨(12≤j∧j<12+r)
   ·rw[if_pos h,if_pos (by omega)]
   ·rw[if_neg h,if_neg (by omega)]
theorem orTo_all (a b:Nat→Int):cc (orTo a b 12)=cc (orC a b):=by
 refine cc_ext (cc_size _) fun j hj=>?_;rw[cc_at _ j hj];unfold orTo;rw[if_pos (by omega)]
theorem metB_l {a b:Nat→Int} (h:csnd a=false):metB a b=false:=by simp[metB,h]
theorem metB_r {a b:Nat→Int} (h:csnd b=false):metB a b=false:=by simp[metB,h]
theorem metB_clash {a b:Nat→Int} {j:Nat} (hj:j<12) (e:clashB a b j=true):metB a b=false:=by
 have:((List.range 12).all fun j=>!clashB a b j)=false:=(by rw[List.all_eq_false];exact⟨j,by simpa using hj,by simp[e]⟩);simp[metB,this]
theorem metB_yes {a b:Nat→Int} (h1:csnd a=true) (h2:csnd b=true) (e:∀j,j<12→clashB a b j=false):metB a b=true:=by
 have:((List.range 12).all fun j=>!clashB a b j)=true:=(by rw[List.all_eq_true];intro j hj;simp[e j (by simpa using hj)]);simp[metB,this,h1,h2]
theorem res_row {fn:Func} {p u:Tmp} {ty:TypeId} (h:fn.results=#[.cell p ty,.tmp u]) {tmps:Array Value} {P:Program} {w:World} {g:Nat} {t:TypeId} {cs:Array Value} {d:TypeDesc} {x:Value} (hp:tmps.getD p undef= .pointer (some ⟨g,0,none⟩)) (hx:tmps.getD u undef=x) (hg:Blk g cs t w) (hu:P.underlying ty=some d) (hd:d.isRow=true) (hi:(P.info? ty).map (·.size)=some cs.size):(results fn tmps).run P w= .ok (.tuple #[.agg cs,x]) w:=by
 rw[results_cell_tmp h,hp,hx];simp[asAddr,run_loadVar_row w g t ty cs (0,0) d hg hu (by cases d<;>first|rfl|(simp[TypeDesc.isRow] at hd)) hi]
theorem Blk.new3 (W:World) (o p:Obj) (cs:Array Value) (t:TypeId):Blk (W.heap.size+1+1) cs t (((W.alloc o).alloc p).alloc (.cells cs t)):=by
 have:=Blk.new2 (W.alloc o) p cs t;simpa using this
set_option maxHeartbeats 400000 in
theorem cmeet_l (a b:Nat→Int) (a0:∀j,0≤a j) (w:World) (ht:Tab w) (hz:0<w.heap.size) (hs:csnd a=false):Calls Tryz.prog 151 #[.agg (cc a),.agg (cc b)] w fun e w'=>e= .returned (.tuple #[.agg (cc zh),.bool false])∧Below w.heap.size w w':=by
 have HE:=qH ((((Env.start ht hz).alloc (.cells (cc a) 37)).alloc (.cells (cc b) 37)).alloc (.cells #[.int .u64 0,.int .u64 0,.int .u64 0,.int .u64 0,.int .u64 0,.int .u64 0,.int .u64 0,.int .u64 0,.int .u64 0,.int .u64 0,.int .u64 0,.int .u64 0,.int .u64 0,.int .u64 0,.int .u64 0,.int .u64 0,.int .u64 0,.int .u64 0,.int .u64 0,.int .u64 0,.int .u64 0,.int .u64 0,.int .u64 0,.int .u64 0] 37));have R0:=qH (((Blk.new w (cc a) 37).old (.cells (cc b) 37)).old (.cells #[.int .u64 0,.int .u64 0,.int .u64 0,.int .u64 0,.int .u64 0,.int .u64 0,.int .u64 0,.int .u64 0,.int .u64 0,.int .u64 0,.int .u64 0,.int .u64 0,.int .u64 0,.int .u64 0,.int .u64 0,.int .u64 0,.int .u64 0,.int .u64 0,.int .u64 0,.int .u64 0,.int .u64 0,.int .u64 0,.int .u64 0,.int .u64 0] 37));have R2:=qH (Blk.new3 w (.cells (cc a) 37) (.cells (cc b) 37) #[.int .u64 0,.int .u64 0,.int .u64 0,.int .u64 0,.int .u64 0,.int .u64 0,.int .u64 0,.int .u64 0,.int .u64 0,.int .u64 0,.int .u64 0,.int .u64 0,.int .u64 0,.int .u64 0,.int .u64 0,.int .u64 0,.int .u64 0,.int .u64 0,.int .u64 0,.int .u64 0,.int .u64 0,.int .u64 0,.int .u64 0,.int .u64 0] 37);have A0:=qH a0;clear ht a0;(go_enter Tryz.func151,Tryz.ntmps151);(go_wp2_with(refine wpList_load_row rfl 37 _ rfl w.heap.size rfl 37 (cc a) (0,0) _ R0.out Tryz.underlying37 rfl (by kernel_rfl) ?_));refine(csound_any a A0.out _ HE.out.tab HE.out.lt).mono ?_;rintro e w1 ⟨rfl,hw1⟩;have R2':=qH (R2.out.below hw1);have HB:=qH (HE.out.below hw1).kept;clear hw1 HE R0 R2;(go_wp2_with(refine wpList_store_row rfl 37 _ _ rfl (w.heap.size+1+1) #[.int .u64 0,.int .u64 0,.int .u64 0,.int .u64 0,.int .u64 0,.int .u64 0,.int .u64 0,.int .u64 0,.int .u64 0,.int .u64 0,.int .u64 0,.int .u64 0,.int .u64 0,.int .u64 0,.int .u64 0,.int .u64 0,.int .u64 0,.int .u64 0,.int .u64 0,.int .u64 0,.int .u64 0,.int .u64 0,.int .u64 0,.int .u64 0] rfl rfl 37 _ R2'.out (by kernel_rfl) rfl (by kernel_rfl) ?_));refine bodyPost_ret (v:= .tuple #[.agg (cc zh),.bool false]) ?_ rfl ⟨rfl,below_setRow HB.out (by omega) _⟩;exact res_row Tryz.results151 (cs:=cc zh) rfl rfl (R2'.out.rset _) Tryz.underlying37 rfl (by kernel_rfl)
set_option maxHeartbeats 400000 in
theorem cmeet_r (a b:Nat→Int) (a0:∀j,0≤a j) (b0:∀j,0≤b j) (w:World) (ht:Tab w) (hz:0<w.heap.size) (hs:csnd a=true) (hb:csnd b=false):Calls Tryz.prog 151 #[.agg (cc a),.agg (cc b)] w fun e w'=>e= .returned (.tuple #[.agg (cc zh),.bool false])∧Below w.heap.size w w':=by
 have HE:=qH ((((Env.start ht hz).alloc (.cells (cc a) 37)).alloc (.cells (cc b) 37)).alloc (.cells #[.int .u64 0,.int .u64 0,.int .u64 0,.int .u64 0,.int .u64 0,.int .u64 0,.int .u64 0,.int .u64 0,.int .u64 0,.int .u64 0,.int .u64 0,.int .u64 0,.int .u64 0,.int .u64 0,.int .u64 0,.int .u64 0,.int .u64 0,.int .u64 0,.int .u64 0,.int .u64 0,.int .u64 0,.int .u64 0,.int .u64 0,.int .u64 0] 37));have R0:=qH (((Blk.new w (cc a) 37).old (.cells (cc b) 37)).old (.cells #[.int .u64 0,.int .u64 0,.int .u64 0,.int .u64 0,.int .u64 0,.int .u64 0,.int .u64 0,.int .u64 0,.int .u64 0,.int .u64 0,.int .u64 0,.int .u64 0,.int .u64 0,.int .u64 0,.int .u64 0,.int .u64 0,.int .u64 0,.int .u64 0,.int .u64 0,.int .u64 0,.int .u64 0,.int .u64 0,.int .u64 0,.int .u64 0] 37));have R1:=qH ((Blk.new2 w (.cells (cc a) 37) (cc b) 37).old (.cells #[.int .u64 0,.int .u64 0,.int .u64 0,.int .u64 0,.int .u64 0,.int .u64 0,.int .u64 0,.int .u64 0,.int .u64 0,.int .u64 0,.int .u64 0,.int .u64 0,.int .u64 0,.int .u64 0,.int .u64 0,.int .u64 0,.int .u64 0,.int .u64 0,.int .u64 0,.int .u64 0,.int .u64 0,.int .u64 0,.int .u64 0,.int .u64 0] 37));have R2:=qH (Blk.new3 w (.cells (cc a) 37) (.cells (cc b) 37) #[.int .u64 0,.int .u64 0,.int .u64 0,.int .u64 0,.int .u64 0,.int .u64 0,.int .u64 0,.int .u64 0,.int .u64 0,.int .u64 0,.int .u64 0,.int .u64 0,.int .u64 0,.int .u64 0,.int .u64 0,.int .u64 0,.int .u64 0,.int .u64 0,.int .u64 0,.int .u64 0,.int .u64 0,.int .u64 0,.int .u64 0,.int .u64 0] 37);have A0:=qH a0;have B0:=qH b0;clear ht a0 b0;(go_enter Tryz.func151,Tryz.ntmps151);(go_wp2_with(refine wpList_load_row rfl 37 _ rfl w.heap.size rfl 37 (cc a) (0,0) _ R0.out Tryz.underlying37 rfl (by kernel_rfl) ?_));refine(csound_any a A0.out _ HE.out.tab HE.out.lt).mono ?_;rintro e w1 ⟨rfl,hw1⟩;have R01:=qH (R0.out.below hw1);have R11:=qH (R1.out.below hw1);have R21:=qH (R2.out.below hw1);have HE1:=qH (HE.out.below hw1);clear hw1 HE R0 R1 R2;(go_wp2_with(refine loadRowG rfl 37 _ rfl (w.heap.size+1) rfl 37 (cc b) (0,0) R11.out Tryz.underlying37 rfl (by kernel_rfl) ?_));refine(csound_any b B0.out _ HE1.out.tab HE1.out.lt).mono ?_;rintro e w2 ⟨rfl,hw2⟩;have R02:=qH (R01.out.below hw2);have R12:=qH (R11.out.below hw2);have R22:=qH (R21.out.below hw2);have HB:=qH (HE1.out.below hw2).kept;clear hw2 HE1 R01 R11 R21;(go_wp2_with(refine wpList_store_row rfl 37 _ _ rfl (w.heap.size+1+1) #[.int .u64 0,.int .u64 0,.int .u64 0,.int .u64 0,.int .u64 0,.int .u64 0,.int .u64 0,.int .u64 0,.int .u64 0,.int .u64 0,.int .u64 0,.int .u64 0,.int .u64 0,.int .u64 0,.int .u64 0,.int .u64 0,.int .u64 0,.int .u64 0,.int .u64 0,.int .u64 0,.int .u64 0,.int .u64 0,.int .u64 0,.int .u64 0] rfl rfl 37 _ R22.out (by kernel_rfl) rfl (by kernel_rfl) ?_));refine bodyPost_ret (v:= .tuple #[.agg (cc zh),.bool false]) ?_ rfl ⟨rfl,below_setRow HB.out (by omega) _⟩;exact res_row Tryz.results151 (cs:=cc zh) rfl rfl (R22.out.rset _) Tryz.underlying37 rfl (by kernel_rfl)
def MeetAt (w : World) (B : Nat) (a b c : Nat → Int) (W : World) : Prop :=
  Blk w.heap.size (cc a) 37 W ∧ Blk (w.heap.size + 1) (cc b) 37 W ∧ Blk (w.heap.size + 1 + 1) #[Value.int IntKind.u64 0, Value.int IntKind.u64 0, Value.int IntKind.u64 0, Value.int IntKind.u64 0, Value.int IntKind.u64 0, Value.int IntKind.u64 0, Value.int IntKind.u64 0, Value.int IntKind.u64 0, Value.int IntKind.u64 0, Value.int IntKind.u64 0, Value.int IntKind.u64 0, Value.int IntKind.u64 0, Value.int IntKind.u64 0, Value.int IntKind.u64 0, Value.int IntKind.u64 0, Value.int IntKind.u64 0, Value.int IntKind.u64 0, Value.int IntKind.u64 0, Value.int IntKind.u64 0, Value.int IntKind.u64 0, Value.int IntKind.u64 0, Value.int IntKind.u64 0, Value.int IntKind.u64 0, Value.int IntKind.u64 0] 37 W ∧ Blk B (cc c) 37 W ∧ Below w.heap.size w W
theorem MeetAt.drewN {w:World} {B:Nat} {a b c:Nat→Int} {W:World} (h:MeetAt w B a b c W):∀n,MeetAt w B a b c (W.drewN n)
 |0=>h
 |n+1=>⟨(h.drewN n).1,(h.drewN n).2.1,(h.drewN n).2.2.1,(h.drewN n).2.2.2.1,(h.drewN n).2.2.2.2.drew⟩
theorem MeetAt.set {w:World} {B:Nat} {a b c:Nat→Int} {W:World} (h:MeetAt w B a b c W) (hB:w.heap.size+1+1<B) {k:Nat} (hk:k<24) (v:Int):MeetAt w B a b (upd c k v) (W.setCell ⟨B,k,none⟩ (.int .u64 v)):=⟨h.1.cother (by omega) _,h.2.1.cother (by omega) _,h.2.2.1.cother (by omega) _,h.2.2.2.1.cset hk v,h.2.2.2.2.setCell (by show w.heap.size≤B;omega) _⟩
set_option maxHeartbeats 1000000 in
theorem cmeet_loop (a b:Nat→Int) (a0:∀j,0≤a j) (b0:∀j,0≤b j) (w:World) (ht:Tab w) (hz:0<w.heap.size) (hs:csnd a=true) (hb:csnd b=true):Calls Tryz.prog 151 #[.agg (cc a),.agg (cc b)] w fun e w'=>e= .returned (.tuple #[.agg (cc (metV a b)),.bool (metB a b)])∧Below w.heap.size w w':=by
 have HE:=qH ((((Env.start ht hz).alloc (.cells (cc a) 37)).alloc (.cells (cc b) 37)).alloc (.cells #[.int .u64 0,.int .u64 0,.int .u64 0,.int .u64 0,.int .u64 0,.int .u64 0,.int .u64 0,.int .u64 0,.int .u64 0,.int .u64 0,.int .u64 0,.int .u64 0,.int .u64 0,.int .u64 0,.int .u64 0,.int .u64 0,.int .u64 0,.int .u64 0,.int .u64 0,.int .u64 0,.int .u64 0,.int .u64 0,.int .u64 0,.int .u64 0] 37));have R0:=qH (((Blk.new w (cc a) 37).old (.cells (cc b) 37)).old (.cells #[.int .u64 0,.int .u64 0,.int .u64 0,.int .u64 0,.int .u64 0,.int .u64 0,.int .u64 0,.int .u64 0,.int .u64 0,.int .u64 0,.int .u64 0,.int .u64 0,.int .u64 0,.int .u64 0,.int .u64 0,.int .u64 0,.int .u64 0,.int .u64 0,.int .u64 0,.int .u64 0,.int .u64 0,.int .u64 0,.int .u64 0,.int .u64 0] 37));have R1:=qH ((Blk.new2 w (.cells (cc a) 37) (cc b) 37).old (.cells #[.int .u64 0,.int .u64 0,.int .u64 0,.int .u64 0,.int .u64 0,.int .u64 0,.int .u64 0,.int .u64 0,.int .u64 0,.int .u64 0,.int .u64 0,.int .u64 0,.int .u64 0,.int .u64 0,.int .u64 0,.int .u64 0,.int .u64 0,.int .u64 0,.int .u64 0,.int .u64 0,.int .u64 0,.int .u64 0,.int .u64 0,.int .u64 0] 37));have R2:=qH (Blk.new3 w (.cells (cc a) 37) (.cells (cc b) 37) #[.int .u64 0,.int .u64 0,.int .u64 0,.int .u64 0,.int .u64 0,.int .u64 0,.int .u64 0,.int .u64 0,.int .u64 0,.int .u64 0,.int .u64 0,.int .u64 0,.int .u64 0,.int .u64 0,.int .u64 0,.int .u64 0,.int .u64 0,.int .u64 0,.int .u64 0,.int .u64 0,.int .u64 0,.int .u64 0,.int .u64 0,.int .u64 0] 37);have A0:=qH a0;have B0:=qH b0;have HY:=qH (metB_yes hs hb);clear ht a0 b0;(go_enter Tryz.func151,Tryz.ntmps151);(go_wp2_with(refine wpList_load_row rfl 37 _ rfl w.heap.size rfl 37 (cc a) (0,0) _ R0.out Tryz.underlying37 rfl (by kernel_rfl) ?_));refine(csound_any a A0.out _ HE.out.tab HE.out.lt).mono ?_;rintro e w1 ⟨rfl,hw1⟩;have R01:=qH (R0.out.below hw1);have R11:=qH (R1.out.below hw1);have R21:=qH (R2.out.below hw1);have HE1:=qH (HE.out.below hw1);clear hw1 HE R0 R1 R2;(go_wp2_with(refine loadRowG rfl 37 _ rfl (w.heap.size+1) rfl 37 (cc b) (0,0) R11.out Tryz.underlying37 rfl (by kernel_rfl) ?_));refine(csound_any b B0.out _ HE1.out.tab HE1.out.lt).mono ?_;rintro e w2 ⟨rfl,hw2⟩;have R02:=qH (R01.out.below hw2);have R12:=qH (R11.out.below hw2);have R22:=qH (R21.out.below hw2);have HB:=qH (HE1.out.below hw2).kept;clear hw2 HE1 R01 R11 R21;have hB:w.heap.size+1+1<w2.heap.size:=R22.out.lt;have R32:=qH (Blk.new w2 #[.int .u64 0,.int .u64 0,.int .u64 0,.int .u64 0,.int .u64 0,.int .u64 0,.int .u64 0,.int .u64 0,.int .u64 0,.int .u64 0,.int .u64 0,.int .u64 0,.int .u64 0,.int .u64 0,.int .u64 0,.int .u64 0,.int .u64 0,.int .u64 0,.int .u64 0,.int .u64 0,.int .u64 0,.int .u64 0,.int .u64 0,.int .u64 0] 37);have M:=qH (show MeetAt w w2.heap.size a b zh (w2.alloc (.cells #[.int .u64 0,.int .u64 0,.int .u64 0,.int .u64 0,.int .u64 0,.int .u64 0,.int .u64 0,.int .u64 0,.int .u64 0,.int .u64 0,.int .u64 0,.int .u64 0,.int .u64 0,.int .u64 0,.int .u64 0,.int .u64 0,.int .u64 0,.int .u64 0,.int .u64 0,.int .u64 0,.int .u64 0,.int .u64 0,.int .u64 0,.int .u64 0] 37)) from⟨R02.out.old _,R12.out.old _,R22.out.old _,R32.out,HB.out.alloc (by omega) _⟩);clear R02 R12 R22 R32 HB;go_wp2;clear hs hb;go_loopw [17] (fun i wr=>∃r:Nat,r≤12∧(∀j,j<r→clashB a b j=false)∧i= .int .i64 r∧MeetAt w w2.heap.size a b (orTo a b r) wr) (fun i _=>(12 - intOf i).toNat)
 case atStart=>exact⟨0,by omega,fun j h=>absurd h (by omega),rfl,by rw[orTo_zero];exact M.out⟩
 case round=>
  clear M;obtain⟨r,hr,hq,rfl,hm⟩:=hrel;have HQ:=qH hq;have HM:=qH hm;clear hq hm;by_cases hlt:r<12
  ·have k1:=cellC HM.out.1 (show 12+r<24 by omega);have k2:=cellC HM.out.1 (show r<24 by omega);have k3:=cellC HM.out.2.1 (show 12+r<24 by omega);have k4:=cellC HM.out.2.1 (show r<24 by omega);cases ho:clashB a b r
   ·have ho':(bits .and .u64 (bits .and .u64 (bits .xor .u64 (a r) (b r)) (a (12+r))) (b (12+r)) != 0)=false:=ho;have HO:=qH ho;clear ho;go_wp2;(go_quiet (fail));go_wp2;clear k1 k2 k3 k4 ho';refine regionTail 12 (by kernel_rfl) (by kernel_rfl) (fun W hW=>?_);have HM1:=qH (show MeetAt w w2.heap.size a b (orTo a b r) W by rw[hW.out];exact(HM.out.drewN _).drewN 1);clear hW HM;have k1:=cellC HM1.out.1 (show 12+r<24 by omega);have k3:=cellC HM1.out.2.1 (show 12+r<24 by omega);have k5:=cellC HM1.out.2.2.2.1 (show 12+r<24 by omega);have f5:=frozen_of_row _ w2.heap.size (12+r) _ _ HM1.out.2.2.2.1;simp only[List.take_succ_cons,List.take_zero,List.drop_succ_cons,List.drop_zero];(repeat still_step);refine wpStill_nil ?_;go_wp2;clear k1 k3 k5 f5;have HM2:=qH (HM1.out.set hB (show 12+r<24 by omega) (orC a b (12+r)));clear HM1;refine regionTail 12 (by kernel_rfl) (by kernel_rfl) (fun V hV=>?_);have HM3:=qH (show MeetAt w w2.heap.size a b (upd (orTo a b r) (12+r) (orC a b (12+r))) V by rw[hV.out];exact HM2.out.drewN 1);clear hV HM2;have k1:=cellC HM3.out.1 (show r<24 by omega);have k3:=cellC HM3.out.2.1 (show r<24 by omega);have k5:=cellC HM3.out.2.2.2.1 (show r<24 by omega);have f5:=frozen_of_row _ w2.heap.size r _ _ HM3.out.2.2.2.1;simp only[List.take_succ_cons,List.take_zero,List.drop_succ_cons,List.drop_zero];(repeat still_step);refine wpStill_nil ?_;go_wp2;clear k1 k3 k5 f5;have HM4:=qH (HM3.out.set hB (show r<24 by omega) (orC a b r));rw[orTo_succ a b r hlt] at HM4;clear HM3;go_roundw
    case rel=>
     refine⟨r+1,by omega,fun j hj=>?_,by go_num,HM4.out⟩;by_cases e:j=r
     ·rw[e];exact HO.out
     ·exact HQ.out j (by omega)
    case measure=>simp[intOf];omega
   ·have ho':(bits .and .u64 (bits .and .u64 (bits .xor .u64 (a r) (b r)) (a (12+r))) (b (12+r)) != 0)=true:=ho;have HO:=qH (metB_clash hlt ho);clear ho;go_wp2;(go_quiet (fail));(go_wp2_with(refine wpList_store_row rfl 37 _ _ rfl (w.heap.size+1+1) #[.int .u64 0,.int .u64 0,.int .u64 0,.int .u64 0,.int .u64 0,.int .u64 0,.int .u64 0,.int .u64 0,.int .u64 0,.int .u64 0,.int .u64 0,.int .u64 0,.int .u64 0,.int .u64 0,.int .u64 0,.int .u64 0,.int .u64 0,.int .u64 0,.int .u64 0,.int .u64 0,.int .u64 0,.int .u64 0,.int .u64 0,.int .u64 0] rfl rfl 37 _ (HM.out.drewN _).2.2.1 (by kernel_rfl) rfl (by kernel_rfl) ?_));refine bodyPost_ret (v:= .tuple #[.agg (cc zh),.bool false]) ?_ rfl ⟨by rw[metV,HO.out];rfl,below_setRow (HM.out.drewN _).2.2.2.2 (by omega) _⟩;exact res_row Tryz.results151 (cs:=cc zh) rfl rfl ((HM.out.drewN _).2.2.1.rset _) Tryz.underlying37 rfl (by kernel_rfl)
  ·obtain rfl:r=12:=(by omega);have HO:=qH (HY.out fun j hj=>HQ.out j hj);(go_wp2_with(first|(refine wpList_load_row rfl 37 _ rfl w2.heap.size rfl 37 (cc (orTo a b 12)) (0,0) _ HM.out.2.2.2.1 Tryz.underlying37 rfl (by kernel_rfl) ?_)|(refine wpList_store_row rfl 37 _ _ rfl (w.heap.size+1+1) (cc (orTo a b 12)) rfl rfl 37 _ HM.out.2.2.1 (by kernel_rfl) rfl (cc_one _) ?_)));refine bodyPost_ret (v:= .tuple #[.agg (cc (orTo a b 12)),.bool true]) ?_ rfl ⟨by rw[metV,HO.out,orTo_all];rfl,below_setRow HM.out.2.2.2.2 (by omega) _⟩;exact res_row Tryz.results151 rfl rfl (HM.out.2.2.1.rset _) Tryz.underlying37 rfl (by kernel_rfl)
theorem cmeet_any (a b:Nat→Int) (a0:∀j,0≤a j) (b0:∀j,0≤b j) (w:World) (ht:Tab w) (hz:0<w.heap.size):Calls Tryz.prog 151 #[.agg (cc a),.agg (cc b)] w fun e w'=>e= .returned (.tuple #[.agg (cc (metV a b)),.bool (metB a b)])∧Below w.heap.size w w':=by
 cases hs:csnd a
 ·rw[metV,metB_l hs];exact cmeet_l a b a0 w ht hz hs
 ·cases hv:csnd b
  ·rw[metV,metB_r hv];exact cmeet_r a b a0 b0 w ht hz hs hv
  ·exact cmeet_loop a b a0 b0 w ht hz hs hv
theorem ret_int {k:IntKind} {a b:Int} (h:a=b):Ending.returned (.int k a)= .returned (.int k b):=by rw[h]
theorem partVal (a:Nat→Int) (w:World):(part 35 (cc a) 0).run Tryz.prog w= .ok (.agg (hl a).toArray) w:=by kernel_rfl
theorem partCare (a:Nat→Int) (w:World):(part 35 (cc a) 12).run Tryz.prog w= .ok (.agg (hl (care a)).toArray) w:=by kernel_rfl
def cEq (a b : Nat → Int) : Bool := hEq a b && hEq (care a) (care b)
set_option maxRecDepth 100000 in
theorem cubeFields:∃f g:Field,(Tryz.prog.fieldsOf 37).toList=[f,g]∧f.name≠ "_" ∧f.type=35∧f.offset=0∧g.name≠ "_" ∧g.type=35∧g.offset=12:=⟨_,_,rfl,by decide,rfl,rfl,by decide,rfl,rfl⟩
theorem eqlHl (d:Nat) (a b:Nat→Int) (w:World):(Op.equalIn (d+2) 35 (.agg (hl a).toArray) (.agg (hl b).toArray)).run Tryz.prog w= .ok (hEq a b) w:=by
 obtain⟨i,hi⟩:=infoU64;show(Op.equalIn (d+2) 35 (.agg (hc a)) (.agg (hc b))).run Tryz.prog w= .ok (hEq a b) w;rw[run_equalIn_array w (d+1) (hc a) (hc b) Tryz.underlying35 hi,cU64];exact eqItems_head a b d w (List.range 12) fun i hi=>by simpa using hi
theorem eql_cube (a b:Nat→Int) (w:World):(Op.equalIn 10000 37 (.agg (cc a)) (.agg (cc b))).run Tryz.prog w= .ok (cEq a b) w:=by
 obtain⟨f,g,hf,f1,f2,f3,g1,g2,g3⟩:=cubeFields;rw[run_equalIn_struct w 9999 37 (cc a) (cc b) (by kernel_rfl) (by kernel_rfl),hf];simp only[Op.eqFields,f1,f2,f3,g1,g2,g3,ne_eq,not_false_eq_true,if_true,Sem.run_bind,partVal,Result.andThen_ok,eqlHl 9997];unfold cEq;cases h:hEq a b
 ·simp
 ·cases h':hEq (care a) (care b)<;>simp[h',partCare,eqlHl 9997]
theorem guardCube:Tryz.prog.eqGuardType Tryz.prog.depth 37=false:=by kernel_rfl
theorem hEq_iff (a b:Nat→Int):hEq a b=true↔∀j,j<12→a j=b j:=by simp[hEq]
theorem cEq_iff (a b:Nat→Int):cEq a b=true↔∀j,j<24→a j=b j:=by
 unfold cEq;rw[Bool.and_eq_true,hEq_iff,hEq_iff];constructor
 ·rintro⟨h1,h2⟩ j hj;by_cases h:j<12
  ·exact h1 j h
  ·have:=h2 (j - 12) (by omega);unfold care at this;rwa [show 12+(j - 12)=j by omega] at this
 ·intro h;exact⟨fun j hj=>h j (by omega),fun j hj=>h (12+j) (by omega)⟩
theorem cEq_cc {a b:Nat→Int} (h:cEq a b=true):cc a=cc b:=cc_ext (cc_size _) fun j hj=>by rw[cc_at _ j hj,(cEq_iff a b).1 h j hj]
theorem res_one {fn:Func} {p:Tmp} {ty:TypeId} (h:fn.results=#[.cell p ty]) {tmps:Array Value} {P:Program} {w:World} {g:Nat} {t:TypeId} {cs:Array Value} {d:TypeDesc} (hp:tmps.getD p undef= .pointer (some ⟨g,0,none⟩)) (hg:Blk g cs t w) (hu:P.underlying ty=some d) (hd:d.isRow=true) (hi:(P.info? ty).map (·.size)=some cs.size):(results fn tmps).run P w= .ok (.agg cs) w:=by
 have e:=run_loadVar_row (P:=P) w g t ty cs (0,0) d hg hu (by cases d<;>first|rfl|(simp[TypeDesc.isRow] at hd)) hi;simp only[results,h];rw[Array.getD_eq_getD_getElem?] at hp;simp[hp,asAddr,e]
set_option maxHeartbeats 400000 in
theorem cwithin_of (a b m:Nat→Int) (y:Bool) (w:World) (hm:∀W,Tab W→0<W.heap.size→Calls Tryz.prog 151 #[.agg (cc a),.agg (cc b)] W fun e w'=>e= .returned (.tuple #[.agg (cc m),.bool y])∧Below W.heap.size W w') (ht:Tab w) (hz:0<w.heap.size):Calls Tryz.prog 143 #[.agg (cc a),.agg (cc b)] w fun e w'=>e= .returned (.bool (y&&cEq m a))∧Below w.heap.size w w':=by
 have HE:=qH (((Env.start ht hz).alloc (.cells (cc a) 37)).alloc (.cells (cc b) 37));have R0:=qH ((Blk.new w (cc a) 37).old (.cells (cc b) 37));have R1:=qH (Blk.new2 w (.cells (cc a) 37) (cc b) 37);have HM:=qH hm;clear ht hm;(go_enter Tryz.func143,Tryz.ntmps143);(go_wp2_with(first|(refine wpList_load_row rfl 37 _ rfl w.heap.size rfl 37 (cc a) (0,0) _ R0.out Tryz.underlying37 rfl (by kernel_rfl) ?_)|(refine wpList_load_row rfl 37 _ rfl (w.heap.size+1) rfl 37 (cc b) (0,0) _ R1.out Tryz.underlying37 rfl (by kernel_rfl) ?_)));refine(HM.out _ HE.out.tab HE.out.lt).mono ?_;rintro e w1 ⟨rfl,hw1⟩;have R01:=qH ((R0.out.below hw1).old (.cells (cc m) 37));have R21:=qH (Blk.new w1 (cc m) 37);have HB:=qH ((HE.out.below hw1).alloc (.cells (cc m) 37)).kept;clear hw1 HE R0 R1 HM;have hgd:=guardCube;have heq:∀w,(Op.equalIn 10000 37 (.agg (cc m)) (.agg (cc a))).run Tryz.prog w= .ok (cEq m a) w:=fun w=>eql_cube m a w;cases y
 ·(go_wp2_with(refine wpList_store_row rfl 37 _ _ rfl w1.heap.size (cc m) rfl rfl 37 _ (heap_alloc_new _ _) (by kernel_rfl) rfl (cc_one _) ?_;rw[World.setRow_alloc_new]));go_ret;exact⟨rfl,HB.out⟩
 ·(go_wp2_with(first|(refine wpList_store_row rfl 37 _ _ rfl w1.heap.size (cc m) rfl rfl 37 _ (heap_alloc_new _ _) (by kernel_rfl) rfl (cc_one _) ?_;rw[World.setRow_alloc_new])|(refine loadRowG rfl 37 _ rfl w1.heap.size rfl 37 (cc m) (0,0) R21.out Tryz.underlying37 rfl (by kernel_rfl) ?_)|(refine loadRowG rfl 37 _ rfl w.heap.size rfl 37 (cc a) (0,0) R01.out Tryz.underlying37 rfl (by kernel_rfl) ?_)));go_ret;exact⟨by simp,HB.out⟩
def inB (a b : Nat → Int) : Bool := metB a b && cEq (metV a b) a
theorem cwithin_any (a b:Nat→Int) (a0:∀j,0≤a j) (b0:∀j,0≤b j) (w:World) (ht:Tab w) (hz:0<w.heap.size):Calls Tryz.prog 143 #[.agg (cc a),.agg (cc b)] w fun e w'=>e= .returned (.bool (inB a b))∧Below w.heap.size w w':=cwithin_of a b _ _ w (fun W t z=>cmeet_any a b a0 b0 W t z) ht hz
def cOrd (a b : Nat → Int) : Int := if hOrd (care a) (care b) != 0 then hOrd (care a) (care b) else hOrd a b
set_option maxHeartbeats 400000 in
theorem ccmp_any (a b:Nat→Int) (w:World):Calls Tryz.prog 157 #[.agg (cc a),.agg (cc b)] w fun e w'=>e= .returned (.int .i64 (cOrd a b))∧Below w.heap.size w w':=by
 have R0:=qH ((Blk.new w (cc a) 37).old (.cells (cc b) 37));have R1:=qH (Blk.new2 w (.cells (cc a) 37) (cc b) 37);have HC:=qH (show(hOrd (care a) (care b) != 0)=true→cOrd a b=hOrd (care a) (care b) from fun h=>by simp only[cOrd,h,if_true]);have HD:=qH (show(hOrd (care a) (care b) != 0)=false→cOrd a b=hOrd a b from fun h=>by simp only[cOrd,h];rfl);generalize cOrd a b=o at*;(go_enter Tryz.func157,Tryz.ntmps157);(go_wp2_with(first|(refine wpList_load_mid rfl 35 _ rfl w.heap.size 12 rfl (hl (care a)) _ (careR R0.out) Tryz.underlying35 rfl infoHead ?_)|(refine wpList_load_mid rfl 35 _ rfl (w.heap.size+1) 12 rfl (hl (care b)) _ (careR R1.out) Tryz.underlying35 rfl infoHead ?_)));refine(cmp_any (care a) (care b) _).mono ?_;rintro e w1 ⟨rfl,hw1⟩;have R01:=qH (R0.out.below hw1);have R11:=qH (R1.out.below hw1);have HB:=qH ((below2 _ _ _).trans (hw1.mono (by simp;omega)));clear hw1 R0 R1;cases hc:(hOrd (care a) (care b) != 0)
 ·have HE:=qH (HD.out hc);(go_wp2_with(first|(refine wpList_load_mid rfl 35 _ rfl w.heap.size 0 rfl (hl a) _ (valR R01.out) Tryz.underlying35 rfl infoHead ?_)|(refine wpList_load_mid rfl 35 _ rfl (w.heap.size+1) 0 rfl (hl b) _ (valR R11.out) Tryz.underlying35 rfl infoHead ?_)));refine(cmp_any a b _).mono ?_;rintro e w2 ⟨rfl,hw2⟩;go_wp2;go_ret;exact⟨ret_int HE.out.symm,HB.out.trans (hw2.mono HB.out.size)⟩
 ·have HE:=qH (HC.out hc);go_wp2;go_ret;exact⟨ret_int HE.out.symm,HB.out⟩
def Wf (a : Nat → Int) : Prop := ∀ j, 0 ≤ a j ∧ a j < 18446744073709551616
theorem Wf.nat {a:Nat→Int} (h:Wf a) (j:Nat):(a j).toNat<18446744073709551616:=by have:=h j;omega
def bitAt (a : Nat → Int) (j i : Nat) : Bool := (a j).toNat.testBit i
theorem nat_eq_zero_iff (n:Nat):n=0↔∀i,n.testBit i=false:=⟨fun h i=>by rw[h];exact Nat.zero_testBit i,fun h=>Nat.eq_of_testBit_eq fun i=>by rw[h i,Nat.zero_testBit]⟩
theorem int_ne_zero (n:Nat):(((n:Nat):Int) != 0)=false↔n=0:=by
 rw[bne_eq_false_iff_eq];omega
theorem testBit_high {n i:Nat} (h:n<18446744073709551616) (hi:64≤i):n.testBit i=false:=Nat.testBit_lt_two_pow (Nat.lt_of_lt_of_le h (Nat.le_trans (by decide) (Nat.pow_le_pow_right (by decide) hi)))
theorem testBit_comp {y i:Nat} (h:y<18446744073709551616):(18446744073709551615 - y).testBit i=(decide (i<64)&& !y.testBit i):=by
 have:=Nat.testBit_two_pow_sub_succ (x:=y) (n:=64) (by simpa using h) i;rw[←this,show 18446744073709551615 - y=2 ^ 64 - (y+1) by omega]
theorem over_iff {a:Nat→Int} (h:Wf a) (j:Nat):overB a j=false↔∀i,bitAt a j i=true→bitAt a (12+j) i=true:=by
 unfold overB bitAt;rw[u64_andNot _ _ (h j).1 (h j).2 (h (12+j)).1 (h (12+j)).2,int_ne_zero,nat_eq_zero_iff];refine forall_congr' fun i=>?_;rw[Nat.testBit_and,testBit_comp (h.nat (12+j))];by_cases hi:i<64
 ·cases(a j).toNat.testBit i<;>cases(a (12+j)).toNat.testBit i<;>simp[hi]
 ·rw[testBit_high (h.nat j) (by omega)];simp
theorem and_wf {x y:Int} (hx:0≤x∧x<18446744073709551616) (hy:0≤y∧y<18446744073709551616):0≤bits .and .u64 x y∧bits .and .u64 x y<18446744073709551616:=by
 rw[u64_and _ _ hx.1 hx.2 hy.1 hy.2];have:=Nat.and_lt_two_pow (n:=64) x.toNat (y:=y.toNat) (by omega);omega
theorem or_wf {x y:Int} (hx:0≤x∧x<18446744073709551616) (hy:0≤y∧y<18446744073709551616):0≤bits .or .u64 x y∧bits .or .u64 x y<18446744073709551616:=by
 rw[u64_or _ _ hx.1 hx.2 hy.1 hy.2];have:=Nat.or_lt_two_pow (n:=64) (x:=x.toNat) (y:=y.toNat) (by omega) (by omega);omega
theorem xor_wf {x y:Int} (hx:0≤x∧x<18446744073709551616) (hy:0≤y∧y<18446744073709551616):0≤bits .xor .u64 x y∧bits .xor .u64 x y<18446744073709551616:=by
 rw[u64_xor _ _ hx.1 hx.2 hy.1 hy.2];have:=Nat.xor_lt_two_pow (n:=64) (x:=x.toNat) (y:=y.toNat) (by omega) (by omega);omega
theorem bit_and {x y:Int} (hx:0≤x∧x<18446744073709551616) (hy:0≤y∧y<18446744073709551616) (i:Nat):(bits .and .u64 x y).toNat.testBit i=(x.toNat.testBit i&&y.toNat.testBit i):=by
 rw[u64_and _ _ hx.1 hx.2 hy.1 hy.2,Int.toNat_natCast,Nat.testBit_and]
theorem bit_or {x y:Int} (hx:0≤x∧x<18446744073709551616) (hy:0≤y∧y<18446744073709551616) (i:Nat):(bits .or .u64 x y).toNat.testBit i=(x.toNat.testBit i||y.toNat.testBit i):=by
 rw[u64_or _ _ hx.1 hx.2 hy.1 hy.2,Int.toNat_natCast,Nat.testBit_or]
theorem bit_xor {x y:Int} (hx:0≤x∧x<18446744073709551616) (hy:0≤y∧y<18446744073709551616) (i:Nat):(bits .xor .u64 x y).toNat.testBit i=(x.toNat.testBit i != y.toNat.testBit i):=by
 rw[u64_xor _ _ hx.1 hx.2 hy.1 hy.2,Int.toNat_natCast,Nat.testBit_xor]
theorem int_ext {x y:Int} (hx:0≤x) (hy:0≤y) (h:∀i,x.toNat.testBit i=y.toNat.testBit i):x=y:=by
 have:=Nat.eq_of_testBit_eq h;omega
theorem ne_zero_iff {x:Int} (hx:0≤x):(x != 0)=false↔∀i,x.toNat.testBit i=false:=by
 rw[bne_eq_false_iff_eq,←nat_eq_zero_iff];omega
theorem clash_iff {a b:Nat→Int} (ha:Wf a) (hb:Wf b) (j:Nat):clashB a b j=false↔∀i,bitAt a (12+j) i=true→bitAt b (12+j) i=true→bitAt a j i=bitAt b j i:=by
 have h1:=xor_wf (ha j) (hb j);have h2:=and_wf h1 (ha (12+j));have h3:=and_wf h2 (hb (12+j));unfold clashB;rw[ne_zero_iff h3.1];refine forall_congr' fun i=>?_;rw[bit_and h2 (hb (12+j)),bit_and h1 (ha (12+j)),bit_xor (ha j) (hb j)];unfold bitAt;cases(a j).toNat.testBit i<;>cases(b j).toNat.testBit i<;>cases(a (12+j)).toNat.testBit i<;>cases(b (12+j)).toNat.testBit i<;>simp
theorem off_iff {c h:Nat→Int} (hc:Wf c) (hh:Wf h) (j:Nat):offB c h j=false↔∀i,(bitAt h j i&&bitAt c (12+j) i)=bitAt c j i:=by
 have h1:=and_wf (hh j) (hc (12+j));unfold offB;rw[bne_eq_false_iff_eq];unfold bitAt;constructor
 ·intro e i;rw[←bit_and (hh j) (hc (12+j)),e]
 ·intro e;exact int_ext h1.1 (hc j).1 fun i=>by rw[bit_and (hh j) (hc (12+j)),e i]
theorem fit_nat (k:Nat) (v:Int) (h0:0≤v):fitB k v=true↔v.toNat<2 ^ (sz k).toNat:=by
 unfold fitB;rw[decide_eq_true_eq];constructor
 ·intro h;have:(v.toNat:Int)<((2 ^ (sz k).toNat:Nat):Int):=(by rw[Int.toNat_of_nonneg h0];exact_mod_cast h);exact_mod_cast this
 ·intro h;have:(v.toNat:Int)<((2 ^ (sz k).toNat:Nat):Int):=(by exact_mod_cast h);rw[Int.toNat_of_nonneg h0] at this;exact_mod_cast this
theorem snd_iff (a:Nat→Int):sndB a=true↔∀j,j<12→fitB j (a j)=true:=by simp[sndB]
theorem csnd_iff {a:Nat→Int} (h:Wf a):csnd a=true↔(∀j,j<12→fitB j (a (12+j))=true∧fitB j (a j)=true∧∀i,bitAt a j i=true→bitAt a (12+j) i=true):=by
 unfold csnd;rw[Bool.and_eq_true,Bool.and_eq_true,snd_iff,snd_iff,List.all_eq_true];constructor
 ·rintro⟨⟨h1,h2⟩,h3⟩ j hj;refine⟨h1 j hj,h2 j hj,(over_iff h j).1 ?_⟩;have:=h3 j (by simpa using hj);simpa using this
 ·intro H;refine⟨⟨fun j hj=>(H j hj).1,fun j hj=>(H j hj).2.1⟩,fun j hj=>?_⟩;have:=(over_iff h j).2 (H j (by simpa using hj)).2.2;simp[this]
theorem met_iff {a b:Nat→Int} (ha:Wf a) (hb:Wf b):metB a b=true↔csnd a=true∧csnd b=true∧∀j,j<12→∀i,bitAt a (12+j) i=true→bitAt b (12+j) i=true→bitAt a j i=bitAt b j i:=by
 unfold metB;rw[Bool.and_eq_true,Bool.and_eq_true,List.all_eq_true,and_assoc];refine and_congr Iff.rfl (and_congr Iff.rfl ⟨fun h j hj=>(clash_iff ha hb j).1 ?_,fun h j hj=>?_⟩)
 ·have:=h j (by simpa using hj);simpa using this
 ·have:=(clash_iff ha hb j).2 (h j (by simpa using hj));simp[this]
theorem orC_wf {a b:Nat→Int} (ha:Wf a) (hb:Wf b):Wf (orC a b):=fun j=>or_wf (ha j) (hb j)
theorem orC_bit {a b:Nat→Int} (ha:Wf a) (hb:Wf b) (j i:Nat):bitAt (orC a b) j i=(bitAt a j i||bitAt b j i):=bit_or (ha j) (hb j) i
theorem orC_fit {a b:Nat→Int} (ha:Wf a) (hb:Wf b) {k j:Nat} (h1:fitB k (a j)=true) (h2:fitB k (b j)=true):fitB k (orC a b j)=true:=by
 rw[fit_nat k _ (ha j).1] at h1;rw[fit_nat k _ (hb j).1] at h2;rw[fit_nat k _ (orC_wf ha hb j).1];unfold orC;rw[u64_or _ _ (ha j).1 (ha j).2 (hb j).1 (hb j).2,Int.toNat_natCast];exact Nat.or_lt_two_pow h1 h2
theorem orC_snd {a b:Nat→Int} (ha:Wf a) (hb:Wf b) (h1:csnd a=true) (h2:csnd b=true):csnd (orC a b)=true:=by
 rw[csnd_iff ha] at h1;rw[csnd_iff hb] at h2;rw[csnd_iff (orC_wf ha hb)];intro j hj;obtain⟨a1,a2,a3⟩:=h1 j hj;obtain⟨b1,b2,b3⟩:=h2 j hj;refine⟨orC_fit ha hb a1 b1,orC_fit ha hb a2 b2,fun i=>?_⟩;rw[orC_bit ha hb,orC_bit ha hb];have p:=a3 i;have q:=b3 i;revert p q;cases bitAt a j i<;>cases bitAt b j i<;>cases bitAt a (12+j) i<;>cases bitAt b (12+j) i<;>simp
theorem metV_yes {a b:Nat→Int} (h:metB a b=true):metV a b=orC a b:=by simp[metV,h]
theorem cEq_refl (a:Nat→Int):cEq a a=true:=(cEq_iff a a).2 fun _ _=>rfl
set_option maxHeartbeats 400000 in
theorem rccmp_any (a b:Nat→Int) (w:World):Calls Tryz.prog 83 #[.agg (cc a),.agg (cc b)] w fun e w'=>e= .returned (.int .i64 (cOrd a b))∧Below w.heap.size w w':=by
 have R0:=qH ((Blk.new w (cc a) 37).old (.cells (cc b) 37));have R1:=qH (Blk.new2 w (.cells (cc a) 37) (cc b) 37);have HC:=qH (show(hOrd (care a) (care b) != 0)=true→cOrd a b=hOrd (care a) (care b) from fun h=>by simp only[cOrd,h,if_true]);have HD:=qH (show(hOrd (care a) (care b) != 0)=false→cOrd a b=hOrd a b from fun h=>by simp only[cOrd,h];rfl);generalize cOrd a b=o at*;(go_enter Tryz.func83,Tryz.ntmps83);(go_wp2_with(first|(refine wpList_load_mid rfl 35 _ rfl w.heap.size 12 rfl (hl (care a)) _ (careR R0.out) Tryz.underlying35 rfl infoHead ?_)|(refine wpList_load_mid rfl 35 _ rfl (w.heap.size+1) 12 rfl (hl (care b)) _ (careR R1.out) Tryz.underlying35 rfl infoHead ?_)));refine(rord_any (care a) (care b) _).mono ?_;rintro e w1 ⟨rfl,hw1⟩;have R01:=qH (R0.out.below hw1);have R11:=qH (R1.out.below hw1);have HB:=qH ((below2 _ _ _).trans (hw1.mono (by simp;omega)));clear hw1 R0 R1;cases hc:(hOrd (care a) (care b) != 0)
 ·have HE:=qH (HD.out hc);(go_wp2_with(first|(refine wpList_load_mid rfl 35 _ rfl w.heap.size 0 rfl (hl a) _ (valR R01.out) Tryz.underlying35 rfl infoHead ?_)|(refine wpList_load_mid rfl 35 _ rfl (w.heap.size+1) 0 rfl (hl b) _ (valR R11.out) Tryz.underlying35 rfl infoHead ?_)));refine(rord_any a b _).mono ?_;rintro e w2 ⟨rfl,hw2⟩;go_wp2;go_ret;exact⟨ret_int HE.out.symm,HB.out.trans (hw2.mono HB.out.size)⟩
 ·have HE:=qH (HC.out hc);go_wp2;go_ret;exact⟨ret_int HE.out.symm,HB.out⟩
theorem cOrd_neg (a b:Nat→Int):cOrd b a= -cOrd a b:=by
 unfold cOrd;have e1:=ord_neg (care a) (care b);have e2:=ord_neg a b;by_cases h:hOrd (care a) (care b)=0
 ·have h':hOrd (care b) (care a)=0:=(by omega);simp only[h,h',bne_self_eq_false,Bool.false_eq_true,if_false];omega
 ·have h':hOrd (care b) (care a)≠0:=(by omega);rw[if_pos (by simpa using h'),if_pos (by simpa using h)];omega
theorem cOrd_zero (a b:Nat→Int):(cOrd a b==0)=cEq a b:=by
 unfold cOrd cEq;rw[←ord_zero,←ord_zero];by_cases h:hOrd (care a) (care b)=0
 ·simp[h]
 ·rw[if_pos (by simpa using h)];simp[h]
theorem mkv_nat (s i:Nat) (h:i≤s):mkv s i=(((2 ^ i - 1)*2 ^ (s - i):Nat):Int):=by
 have h1:1≤2 ^ i:=Nat.one_le_two_pow;unfold mkv;rw[Nat.min_eq_right h,Int.natCast_mul,Int.natCast_sub h1];push_cast;rfl
theorem mkv_bit (s i t:Nat) (h:i≤s):(mkv s i).toNat.testBit t=decide (s - i≤t∧t<s):=by
 rw[mkv_nat s i h,Int.toNat_natCast,Nat.testBit_mul_two_pow,Nat.testBit_two_pow_sub_one];by_cases h1:s - i≤t
 ·by_cases h2:t<s
  ·simp[h1,h2];omega
  ·simp[h1,h2];omega
 ·simp[h1]
def hiB (n : Nat) : Nat := Lib.bitLen n - 1
def Ext (c x : Nat → Int) : Prop := ∀ j, j < 12 → ∀ t, bitAt c (12 + j) t = true → bitAt x (12 + j) t = true ∧ bitAt x j t = bitAt c j t
theorem ext_in {a x:Nat→Int} (ha:Wf a) (hx:Wf x) (sa:csnd a=true) (sx:csnd x=true) (h:Ext a x):inB x a=true:=by
 have ia:=(csnd_iff ha).1 sa;have hm:metB x a=true:=(met_iff hx ha).2 ⟨sx,sa,fun j hj t _ h2=>(h j hj t h2).2⟩;unfold inB;rw[hm,metV_yes hm,Bool.true_and,cEq_iff];intro q hq;refine int_ext (orC_wf hx ha q).1 (hx q).1 fun t=>?_;have:=orC_bit hx ha q t;unfold bitAt at this;rw[this];have key:bitAt a q t=true→bitAt x q t=true:=by
  intro e;by_cases h12:q<12
  ·have e':=(ia q h12).2.2 t e;rw[(h q h12 t e').2];exact e
  ·have e':=e;rw[show q=12+(q - 12) by omega] at e' ⊢;exact(h (q - 12) (by omega) t e').1
 unfold bitAt at key;revert key;cases(x q).toNat.testBit t<;>cases(a q).toNat.testBit t<;>simp
theorem in_ext {a b:Nat→Int} (ha:Wf a) (hb:Wf b) (h:inB a b=true):metB a b=true∧∀j t,j<12→bitAt b (12+j) t=true→bitAt a (12+j) t=true:=by
 unfold inB at h;rw[Bool.and_eq_true] at h;obtain⟨hm,hc⟩:=h;refine⟨hm,fun j t hj e=>?_⟩;rw[metV_yes hm] at hc;have q:=(cEq_iff _ _).1 hc (12+j) (by omega);have:=orC_bit ha hb (12+j) t;unfold bitAt at this e ⊢;rw[q,e] at this;rw[this];simp
section
variable {b c : Nat → Int} (hb : Wf b) (hc : Wf c) (sc : csnd c = true) {i n : Nat} (hi : i < 12) (hn : n < 64)
end
theorem fit_bits {k:Nat} {x:Int} (h0:0≤x):fitB k x=true↔∀t,(sz k).toNat≤t→x.toNat.testBit t=false:=by
 rw[fit_nat k x h0];constructor
 ·intro h t ht;exact Nat.testBit_lt_two_pow (Nat.lt_of_lt_of_le h (Nat.pow_le_pow_right (by decide) ht))
 ·intro h;exact Nat.lt_pow_two_of_testBit _ fun t ht=>h t ht
structure Pieces (b c c' : Nat → Int) (l : List (Nat → Int)) : Prop where
  each : ∀ x ∈ l, csnd x = true ∧ Ext c x ∧ metB x b = false
  snd : csnd c' = true
  ext : Ext c c'
  pair : l.Pairwise fun x y => metB y x = false
  later : ∀ x ∈ l, ∀ y, Wf y → csnd y = true → Ext c' y → metB y x = false
end Go.Proofs.YtomnpfbebimpkaaGreatDoor
