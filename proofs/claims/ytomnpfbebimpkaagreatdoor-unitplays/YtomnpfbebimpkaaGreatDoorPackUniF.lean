/- Several of my texts as one: UniVal, UniFun, UniChg, UniTrn, UniDel, UniEnd. -/
import Derived.Test.YtomnpfbebimpkaaGreatDoorPackUniM
import Derived.Test.YtomnpfbebimpkaaGreatDoorModArg
import Derived.Test.YtomnpfbebimpkaaGreatDoorUndChg
import Derived.Test.YtomnpfbebimpkaaGreatDoorSq
import Derived.Test.YtomnpfbebimpkaaGreatDoorCodArg
import Derived.Test.YtomnpfbebimpkaaGreatDoorPackModB
import Derived.Test.YtomnpfbebimpkaaGreatDoorModAns
import Derived.Test.YtomnpfbebimpkaaGreatDoorLapTkM
import Derived.Test.YtomnpfbebimpkaaGreatDoorSlFrom
/-
  A unit in memory: its box, its base, its open transactions; what a method of it leaves of all other memory.
-/
namespace Go.Proofs.YtomnpfbebimpkaaGreatDoor
set_option maxRecDepth 20000
open Go.RowKit
structure Fr (M : List Nat) (W W' : World) : Prop where
  os : W'.os = W.os
  tape : W'.tape = W.tape
  output : W'.output = W.output
  size : W.heap.size ≤ W'.heap.size
  keep : ∀ g, g < W.heap.size → g ∉ M → W'.heap[g]? = W.heap[g]?
def Typ (W : World) (g : Nat) (T : TypeId) : Prop := ∃ cs f, W.heap[g]? = some (.cells cs T f)
def mutT : List TypeId := [81, 91, 93, 40, 30, 52]
def Muts (M : List Nat) (W : World) : Prop := ∀ g ∈ M, ∃ T ∈ mutT, Typ W g T
section
variable {M M' : List Nat} {W W' W'' w : World} {b g : Nat} {T T' : TypeId} {cs : Array Value} {rw_ : Option Nat}
theorem Fr.trans (h:Fr M W W') (k:Fr M' W' W'') (hs:∀g∈M',g∈M∨W.heap.size≤g):Fr M W W'':=⟨k.os.trans h.os,k.tape.trans h.tape,k.output.trans h.output,Nat.le_trans h.size k.size,fun g hg hn=>(k.keep g (Nat.lt_of_lt_of_le hg h.size) fun hm=>(hs g hm).elim hn fun e=>by omega).trans (h.keep g hg hn)⟩
theorem Fr.mono (h:Fr M W W') (hs:∀g∈M,g∈M'∨W.heap.size≤g):Fr M' W W':=⟨h.os,h.tape,h.output,h.size,fun g hg hn=>h.keep g hg fun hm=>(hs g hm).elim hn fun e=>by omega⟩
theorem Fr.of (h:Below W.heap.size W W'):Fr M W W':=⟨h.os,h.tape,h.output,h.size,fun g hg _=>h.block g hg⟩
theorem Fr.grown (h:W.grownBy W' rw_) (hr:∀k,rw_=some k→k∈M):Fr M W W':=⟨h.os,h.tape,h.output,h.size,fun g hg hn=>h.block g hg fun e=>hn (hr g e.symm)⟩
theorem Fr.cell (W:World) (a:Addr) (u:Value) (h:a.block∈M):Fr M W (W.setCell a u):=⟨rfl,rfl,rfl,by simp[World.setCell],fun g _ hn=>heap_setCell_other W a g u fun e=>hn (e ▸ h)⟩
theorem Fr.row (W:World) (k:Nat) (cs:Array Value) (h:k∈M):Fr M W (W.setRow k cs):=⟨rfl,rfl,rfl,by simp[World.setRow],fun g _ hn=>setRow_other _ _ _ _ fun e=>hn (e ▸ h)⟩
theorem Fr.below {B:Nat} (h:Fr M W W') (hM:∀g∈M,B≤g) (hB:B≤W.heap.size) (hb:Below B w W):Below B w W':=hb.trans ⟨h.os,h.tape,h.output,h.size,fun g hg=>h.keep g (by omega) fun hm=>by have:=hM g hm;omega⟩
theorem Fr.blk (h:Fr M W W') (hb:Blk b cs T W) (hn:b∉M):Blk b cs T W':=(h.keep b hb.lt hn).trans hb
theorem Typ.lt (h:Typ W g T):g<W.heap.size:=by
 obtain⟨cs,f,e⟩:=h;exact(Array.getElem?_eq_some_iff.1 e).1
theorem Typ.one (h:Typ W g T) (k:Typ W g T'):T=T':=by
 obtain⟨cs,f,e⟩:=h;obtain⟨cs',f',e'⟩:=k;rw[e] at e';injection e' with e';injection e'
theorem Blk.typ (h:Blk b cs T W):Typ W b T:=⟨cs,_,h⟩
theorem Muts.lt (h:Muts M W):∀g∈M,g<W.heap.size:=fun g hg=>by
 obtain⟨T,_,ht⟩:=h g hg;exact ht.lt
theorem Muts.not (h:Muts M W) (ht:Typ W g T) (hT:T∉mutT):g∉M:=fun hm=>by
 obtain⟨T',h1,h2⟩:=h g hm;exact hT (ht.one h2 ▸ h1)
variable {α : Type} {K : Kd α} {base : Nat} {v : Value} {l : List α}
theorem KOwns.typ (h:KOwns K base v l W) (hk:v.ownBlock=some g):Typ W g K.T:=by
 rcases h.2 with⟨e,_⟩|⟨g',cap,cur,e,_,e3,_⟩
 ·rw[e] at hk;cases hk
 ·rw[e] at hk;injection hk with hk;have hk':g'=g:=hk;subst hk';exact⟨cur,_,e3⟩
theorem KOwns.blkRange (h:KOwns K base v l W) (hk:v.ownBlock=some g):base≤g∧g<W.heap.size:=World.ownsRow.lt h g hk
theorem Fr.owns (h:Fr M W W') (ho:KOwns K base v l W) (hn:∀g,v.ownBlock=some g→g∉M):KOwns K base v l W':=ho.keep fun g hg=>h.keep g (ho.blkRange hg).2 (hn g hg)
theorem Fr.ownsT (h:Fr M W W') (hM:Muts M W) (ho:KOwns K base v l W) (hT:K.T∉mutT):KOwns K base v l W':=h.owns ho fun _ hg=>hM.not (ho.typ hg) hT
end
theorem notA:KA.T∉mutT:=by decide
theorem notR:KR.T∉mutT:=by decide
theorem notG:KG.T∉mutT:=by decide
theorem notS:KS.T∉mutT:=by decide
def OL (B : Nat) (v : Value) (L : List Rm) (W : World) : Prop := KOwns KR B v L W ∧ ∀ y ∈ L, OwnA B y W
def OwnM (B : Nat) (m : Mm) (W : World) : Prop := KOwns KA B (.slice m.q m.n m.c) m.u.acts W
section
variable {B : Nat} {M : List Nat} {v : Value} {L : List Rm} {m : Mm} {W W' : World}
theorem OL.lies (h:OL B v L W):RLies v L W:=⟨h.1.lies okR,fun y hy=>(h.2 y hy).inA⟩
theorem OL.below (h:OL B v L W) (hb:Below W.heap.size W W'):OL B v L W':=⟨h.1.below hb,fun y hy=>(h.2 y hy).below hb⟩
theorem OL.fr (h:OL B v L W) (k:Fr M W W') (hM:Muts M W):OL B v L W':=⟨k.ownsT hM h.1 notR,fun y hy=>k.ownsT hM (h.2 y hy) notA⟩
theorem OL.mono {B':Nat} (h:OL B v L W) (hb:B'≤B):OL B' v L W:=⟨h.1.mono hb,fun y hy=>(h.2 y hy).mono hb⟩
theorem OL.nil (B:Nat) (W:World):OL B (.slice none 0 0) [] W:=⟨KOwns.nil _ _,fun _ h=>(by cases h)⟩
theorem OwnM.inM (h:OwnM B m W):InM m W:=KOwns.lies h okA
theorem OwnM.below (h:OwnM B m W) (hb:Below W.heap.size W W'):OwnM B m W':=KOwns.below h hb
theorem OwnM.fr (h:OwnM B m W) (k:Fr M W W') (hM:Muts M W):OwnM B m W':=k.ownsT hM h notA
end
structure Tm where
  b : Nat
  id : Int
  v : Value
  ms : List Mm
  ref : Bool
def Tm.tx (t : Tm) : Tx := ⟨t.id, t.ms.map (·.u), t.ref⟩
def tca (t : Tm) : Array Value := #[.int .i64 t.id, t.v, .bool t.ref]
abbrev KX : Kd Nat := ⟨91, 79, 1, 8, fun b => [.pointer (some ⟨b, 0, none⟩)]⟩
theorem okX:KX.Ok where
 pos:=by decide
 len:=fun _=>rfl
 one:=fun a u hu=>by simp only[List.mem_cons,List.not_mem_nil,or_false] at hu;subst hu;rfl
 under:=Tryz.underlying79
 info:=infoOf (by kernel_rfl) (by kernel_rfl) (by kernel_rfl)
 small:=by decide
 room1:=by decide
structure TxA (B : Nat) (t : Tm) (W : World) : Prop where
  box : Blk t.b (tca t) 93 W
  ge : B ≤ t.b
  own : KOwns KM B t.v t.ms W
  acts : ∀ m ∈ t.ms, OwnM B m W
def ownL (v : Value) : List Nat := v.ownBlock.toList
theorem mem_ownL {v:Value} {g:Nat}:g∈ownL v↔v.ownBlock=some g:=by unfold ownL;rw[Option.mem_toList]
def Tm.mut (t : Tm) : List Nat := t.b :: ownL t.v
def mutsT (ts : List Tm) : List Nat := ts.flatMap (·.mut)
structure Um where
  p : Nat
  room : Int
  vb : Value
  L : List Rm
  vo : Value
  ts : List Tm
  fail : Bool
def Um.un (x : Um) : Un := ⟨x.room, x.L.map (·.u), x.ts.map (·.tx), x.fail⟩
def uca (x : Um) : Array Value := #[.int .i64 x.room, x.vb, x.vo, .bool x.fail]
def Um.muts (x : Um) : List Nat := x.p :: (ownL x.vo ++ mutsT x.ts)
structure UniA (B : Nat) (x : Um) (W : World) : Prop where
  box : Blk x.p (uca x) 81 W
  ge : B ≤ x.p
  base : OL B x.vb x.L W
  opn : KOwns KX B x.vo (x.ts.map (·.b)) W
  txs : ∀ t ∈ x.ts, TxA B t W
  nod : (mutsT x.ts).Nodup
section
variable {B : Nat} {M : List Nat} {t : Tm} {x : Um} {W W' : World} {g : Nat}
theorem TxA.below (h:TxA B t W) (hb:Below W.heap.size W W'):TxA B t W':=⟨h.box.below hb,h.ge,h.own.below hb,fun m hm=>(h.acts m hm).below hb⟩
theorem TxA.muts (h:TxA B t W):∀g∈t.mut,B≤g∧∃T∈mutT,Typ W g T:=fun g hg=>by
 rcases List.mem_cons.1 hg with rfl|hg
 ·exact⟨h.ge,93,by decide,h.box.typ⟩
 ·have e:=mem_ownL.1 hg;exact⟨(h.own.blkRange e).1,40,by decide,h.own.typ e⟩
theorem TxA.fr (h:TxA B t W) (k:Fr M W W') (hM:Muts M W) (hn:∀g∈t.mut,g∉M):TxA B t W':=⟨k.blk h.box (hn _ (by simp[Tm.mut])),h.ge,k.owns h.own fun g hg=>hn g (by simp[Tm.mut,mem_ownL,hg]),fun m hm=>(h.acts m hm).fr k hM⟩
theorem UniA.lt (h:UniA B x W):x.p<W.heap.size:=h.box.lt
theorem UniA.below (h:UniA B x W) (hb:Below W.heap.size W W'):UniA B x W':=⟨h.box.below hb,h.ge,h.base.below hb,h.opn.below hb,fun t ht=>(h.txs t ht).below hb,h.nod⟩
theorem mem_mutsT {ts:List Tm}:g∈mutsT ts↔∃t∈ts,g∈t.mut:=List.mem_flatMap
theorem UniA.typs (h:UniA B x W):∀g∈x.muts,B≤g∧∃T∈mutT,Typ W g T:=fun g hg=>by
 rcases List.mem_cons.1 hg with rfl|hg
 ·exact⟨h.ge,81,by decide,h.box.typ⟩
 ·rcases List.mem_append.1 hg with hg|hg
  ·have e:=mem_ownL.1 hg;exact⟨(h.opn.blkRange e).1,91,by decide,h.opn.typ e⟩
  ·obtain⟨t,ht,hg⟩:=mem_mutsT.1 hg;exact(h.txs t ht).muts g hg
theorem UniA.muts (h:UniA B x W):Muts x.muts W:=fun g hg=>(h.typs g hg).2
theorem UniA.from (h:UniA B x W):∀g∈x.muts,B≤g:=fun g hg=>(h.typs g hg).1
theorem UniA.fr (h:UniA B x W) (k:Fr M W W') (hM:Muts M W) (hn:∀g∈x.muts,g∉M):UniA B x W':=⟨k.blk h.box (hn _ (by simp[Um.muts])),h.ge,h.base.fr k hM,k.owns h.opn fun g hg=>hn g (by simp[Um.muts,mem_ownL,hg]),fun t ht=>(h.txs t ht).fr k hM fun g hg=>hn g (by
 simp only[Um.muts,List.mem_cons,List.mem_append];exact .inr (.inr (mem_mutsT.2 ⟨t,ht,hg⟩))),h.nod⟩
theorem UniA.room_ (h:UniA B x W):W.cell? ⟨x.p,0,none⟩=some (.int .i64 x.room):=(cell_of_row _ x.p 0 _ _ _ h.box).trans rfl
theorem UniA.vb_ (h:UniA B x W):W.cell? ⟨x.p,1,none⟩=some x.vb:=(cell_of_row _ x.p 1 _ _ _ h.box).trans rfl
theorem UniA.vo_ (h:UniA B x W):W.cell? ⟨x.p,2,none⟩=some x.vo:=(cell_of_row _ x.p 2 _ _ _ h.box).trans rfl
theorem UniA.fail_ (h:UniA B x W):W.cell? ⟨x.p,3,none⟩=some (.bool x.fail):=(cell_of_row _ x.p 3 _ _ _ h.box).trans rfl
theorem TxA.id_ (h:TxA B t W):W.cell? ⟨t.b,0,none⟩=some (.int .i64 t.id):=(cell_of_row _ t.b 0 _ _ _ h.box).trans rfl
theorem TxA.v_ (h:TxA B t W):W.cell? ⟨t.b,1,none⟩=some t.v:=(cell_of_row _ t.b 1 _ _ _ h.box).trans rfl
theorem TxA.ref_ (h:TxA B t W):W.cell? ⟨t.b,2,none⟩=some (.bool t.ref):=(cell_of_row _ t.b 2 _ _ _ h.box).trans rfl
theorem Typ.ne {h:Nat} {T T':TypeId} (a:Typ W g T) (b:Typ W h T') (hT:T≠T'):g≠h:=fun e=>by subst e;exact hT (a.one b)
theorem UniA.notTx (h:UniA B x W):x.p∉mutsT x.ts:=fun hm=>by
 obtain⟨t,ht,hg⟩:=mem_mutsT.1 hm;rcases List.mem_cons.1 hg with e|hg
 ·exact Typ.ne h.box.typ (h.txs t ht).box.typ (by decide) e
 ·exact Typ.ne h.box.typ ((h.txs t ht).own.typ (mem_ownL.1 hg)) (by decide) rfl
theorem UniA.notVo (h:UniA B x W):x.vo.ownBlock≠some x.p:=fun e=>Typ.ne (h.opn.typ e) h.box.typ (by decide) rfl
theorem UniA.voTx (h:UniA B x W) (e:x.vo.ownBlock=some g):g∉mutsT x.ts:=fun hm=>by
 obtain⟨t,ht,hg⟩:=mem_mutsT.1 hm;rcases List.mem_cons.1 hg with e'|hg
 ·exact Typ.ne (h.opn.typ e) (h.txs t ht).box.typ (by decide) e'
 ·exact Typ.ne (h.opn.typ e) ((h.txs t ht).own.typ (mem_ownL.1 hg)) (by decide) rfl
structure UFr (x x' : Um) (W W' : World) : Prop where
  fr : Fr x.muts W W'
  new : ∀ g ∈ x'.muts, g ∈ x.muts ∨ W.heap.size ≤ g
theorem UFr.of (x:Um) (hb:Below W.heap.size W W'):UFr x x W W':=⟨Fr.of hb,fun _ h=> .inl h⟩
theorem UFr.trans {x' x'':Um} {W'':World} (h:UFr x x' W W') (k:UFr x' x'' W' W''):UFr x x'' W W'':=⟨h.fr.trans k.fr h.new,fun g hg=>by
 rcases k.new g hg with q|q
 ·exact h.new g q
 ·exact .inr (by have:=h.fr.size;omega)⟩
theorem UFr.old {x':Um} {w:World} (h:UFr x x' W W') (hU:UniA B x W) (hB:B≤W.heap.size) (hb:Below B w W):Below B w W':=h.fr.below hU.from hB hb
end
theorem infoInt0:(Tryz.prog.info? 3).map (·.size)=some 1:=by kernel_rfl
def clampR (n : Int) : Int := max 0 (min n 32)
def nilUm (b : Nat) (n : Int) : Um := ⟨b, n, .slice none 0 0, [], .slice none 0 0, [], false⟩
theorem builtUn (n:Int):Tryz.prog.built 81 [(0,.int .i64 n)]=some (uca (nilUm 0 n)):=by kernel_rfl
theorem buildUn {ops:Array Oper} {rest:List Oper} {o:Oper} {a:Act} {w:World} {Q:Exit→Act→World→Prop} (hg:o.guard=none) (x:Operand) (ho:o.op= .build 81 #[(0,x)]) (n:Int) (hx:a.eval x= .int .i64 n) (k:wpList Tryz.prog ops Q rest (a.put o.dst (.agg (uca (nilUm 0 n)))) w):wpList Tryz.prog ops Q (o::rest) a w:=by
 have e:((#[(0,x)]:Array (Nat×Operand)).map fun(p:Nat×Operand)=>(p.1,a.eval p.2)).toList=[(0,.int .i64 n)]:=(by simp[hx]);have e':=congrArg (Tryz.prog.built 81) e;rw[builtUn] at e';refine wpList_build hg 81 _ ho (by rw[e'];rfl) ?_;rw[e'];exact k
theorem new_um {w W:World} (n:Int) (h:Blk w.heap.size (uca (nilUm 0 n)) 81 W):UniA w.heap.size (nilUm w.heap.size n) W:=⟨h,Nat.le_refl _,OL.nil _ _,KOwns.nil _ _,fun t ht=>(by cases ht),List.nodup_nil⟩
theorem un_new (room:Int) (w:World):Calls Tryz.prog 10 #[.int .i64 room] w fun e w'=>e= .returned (.pointer (some ⟨w.heap.size,0,none⟩))∧UniA w.heap.size (nilUm w.heap.size (clampR room)) w'∧Below w.heap.size w w':=by
 have R0:=qH (Blk.new w (uca (nilUm 0 (clampR room))) 81);have HB:=qH (below1 w (.cells (uca (nilUm 0 (clampR room))) 81));(go_enter Tryz.func10,Tryz.ntmps10);(go_wp2_with(refine buildUn rfl _ rfl (clampR room) rfl ?_));go_ret;exact⟨rfl,new_um _ R0.out,HB.out⟩
def errG (t e : Int) : Gm := ⟨6, t, e, zMm, 0, zHd, none, 0, 0, []⟩
theorem zeroG:((Tryz.prog.info? 42).bind (·.zero)).map (·.cells)=some #[.int .i64 0,.int .i64 0,.int .i64 0,.int .i64 0,.int .u64 0,.int .u64 0,.int .u64 0,.int .u64 0,.int .u64 0,.int .u64 0,.int .u64 0,.int .u64 0,.int .u64 0,.int .u64 0,.int .u64 0,.int .u64 0,.int .u64 0,.int .u64 0,.int .u64 0,.int .u64 0,.int .u64 0,.int .u64 0,.int .u64 0,.int .u64 0,.int .u64 0,.int .u64 0,.int .u64 0,.int .u64 0,.int .i64 0,Value.slice none 0 0,.int .i64 0,.int .i64 0,.int .i64 0,Value.bool false,.int .i64 0,.int .u64 0,.int .u64 0,.int .u64 0,.int .u64 0,.int .u64 0,.int .u64 0,.int .u64 0,.int .u64 0,.int .u64 0,.int .u64 0,.int .u64 0,.int .u64 0,Value.slice none 0 0]:=by kernel_rfl
theorem fillG1 (g:Gm):Instr.fill (fun i'=>some (i'*48,48)) ((Array.range (1*48)).map ((#[.int .i64 0,.int .i64 0,.int .i64 0,.int .i64 0,.int .u64 0,.int .u64 0,.int .u64 0,.int .u64 0,.int .u64 0,.int .u64 0,.int .u64 0,.int .u64 0,.int .u64 0,.int .u64 0,.int .u64 0,.int .u64 0,.int .u64 0,.int .u64 0,.int .u64 0,.int .u64 0,.int .u64 0,.int .u64 0,.int .u64 0,.int .u64 0,.int .u64 0,.int .u64 0,.int .u64 0,.int .u64 0,.int .i64 0,Value.slice none 0 0,.int .i64 0,.int .i64 0,.int .i64 0,Value.bool false,.int .i64 0,.int .u64 0,.int .u64 0,.int .u64 0,.int .u64 0,.int .u64 0,.int .u64 0,.int .u64 0,.int .u64 0,.int .u64 0,.int .u64 0,.int .u64 0,.int .u64 0,Value.slice none 0 0]:Array Value)[· % (#[.int .i64 0,.int .i64 0,.int .i64 0,.int .i64 0,.int .u64 0,.int .u64 0,.int .u64 0,.int .u64 0,.int .u64 0,.int .u64 0,.int .u64 0,.int .u64 0,.int .u64 0,.int .u64 0,.int .u64 0,.int .u64 0,.int .u64 0,.int .u64 0,.int .u64 0,.int .u64 0,.int .u64 0,.int .u64 0,.int .u64 0,.int .u64 0,.int .u64 0,.int .u64 0,.int .u64 0,.int .u64 0,.int .i64 0,Value.slice none 0 0,.int .i64 0,.int .i64 0,.int .i64 0,Value.bool false,.int .i64 0,.int .u64 0,.int .u64 0,.int .u64 0,.int .u64 0,.int .u64 0,.int .u64 0,.int .u64 0,.int .u64 0,.int .u64 0,.int .u64 0,.int .u64 0,.int .u64 0,Value.slice none 0 0]:Array Value).size]!)) [(0,.agg (gca g))]=some (gca g):=by kernel_rfl
theorem builtErr (t e:Int):Tryz.prog.built 42 [(0,.int .i64 6),(1,.int .i64 t),(2,.int .i64 e)]=some (gca (errG t e)):=by kernel_rfl
theorem buildErr {ops:Array Oper} {rest:List Oper} {o:Oper} {a:Act} {w:World} {Q:Exit→Act→World→Prop} (hg:o.guard=none) (x y z:Operand) (ho:o.op= .build 42 #[(0,x),(1,y),(2,z)]) (t e:Int) (hx:a.eval x= .int .i64 6) (hy:a.eval y= .int .i64 t) (hz:a.eval z= .int .i64 e) (k:wpList Tryz.prog ops Q rest (a.put o.dst (.agg (gca (errG t e)))) w):wpList Tryz.prog ops Q (o::rest) a w:=by
 have e1:((#[(0,x),(1,y),(2,z)]:Array (Nat×Operand)).map fun(p:Nat×Operand)=>(p.1,a.eval p.2)).toList=[(0,.int .i64 6),(1,.int .i64 t),(2,.int .i64 e)]:=(by simp[hx,hy,hz]);have e':=congrArg (Tryz.prog.built 42) e1;rw[builtErr] at e';refine wpList_build hg 42 _ ho (by rw[e'];rfl) ?_;rw[e'];exact k
theorem Blk.own {α:Type} {K:Kd α} (ok:K.Ok) {b base:Nat} {cs:Array Value} {l:List α} {W:World} (h:Blk b cs K.T W) (he:cs.toList=K.flat l) (hm:l.length≤maxLen) (hb:base≤b):KOwns K base (.slice (some ⟨b,0,none⟩) l.length l.length) l W:=by
 have hsz:cs.size=l.length*K.n:=(by have:=congrArg List.length he;rwa [Array.length_toList,ok.flat_len] at this);refine⟨ok.flat_len l,.inr ⟨b,l.length,cs,rfl,hb,h,Nat.le_refl _,hm,hsz,?_⟩⟩;rw[he,List.take_of_length_le (by rw[ok.flat_len];exact Nat.le_refl _)]
theorem oneG1 {b base:Nat} {g:Gm} {W:World} (h:Blk b (gca g) KG.T W) (hb:base≤b):KOwns KG base (.slice (some ⟨b,0,none⟩) 1 1) [g] W:=Blk.own (l:=[g]) okG h (by simp[Kd.flat,gca]) (by show 1≤maxLen;unfold maxLen;decide) hb
def OwnGm (B : Nat) (a : Gm) (W : World) : Prop := OwnM B a.mod W ∧ OL B (.slice a.q a.n a.c) a.rs W
def AnsL (B : Nat) (v : Value) (gs : List Gm) (W : World) : Prop := KOwns KG B v gs W ∧ ∀ a ∈ gs, OwnGm B a W
section
variable {B : Nat} {v : Value} {gs : List Gm} {a : Gm} {M : List Nat} {W W' : World}
theorem OwnGm.inG (h:OwnGm B a W):InG a W:=⟨h.1.inM,h.2.lies⟩
theorem OwnGm.below (h:OwnGm B a W) (hb:Below W.heap.size W W'):OwnGm B a W':=⟨h.1.below hb,h.2.below hb⟩
theorem OwnGm.fr (h:OwnGm B a W) (k:Fr M W W') (hM:Muts M W):OwnGm B a W':=⟨h.1.fr k hM,h.2.fr k hM⟩
theorem AnsL.below (h:AnsL B v gs W) (hb:Below W.heap.size W W'):AnsL B v gs W':=⟨h.1.below hb,fun a ha=>(h.2 a ha).below hb⟩
theorem AnsL.fr (h:AnsL B v gs W) (k:Fr M W W') (hM:Muts M W):AnsL B v gs W':=⟨k.ownsT hM h.1 notG,fun a ha=>(h.2 a ha).fr k hM⟩
theorem AnsL.mono {B':Nat} (h:AnsL B v gs W) (hb:B'≤B):AnsL B' v gs W:=⟨h.1.mono hb,fun a ha=>⟨KOwns.mono (h.2 a ha).1 hb,(h.2 a ha).2.mono hb⟩⟩
theorem AnsL.nil (B:Nat) (W:World):AnsL B (.slice none 0 0) [] W:=⟨KOwns.nil _ _,fun a ha=>(by cases ha)⟩
theorem AnsL.one (h:KOwns KG B v [a] W) (hi:OwnGm B a W):AnsL B v [a] W:=⟨h,fun y hy=>by
 simp only[List.mem_cons,List.not_mem_nil,or_false] at hy;subst hy;exact hi⟩
theorem AnsL.lies (h:AnsL B v gs W):KLies KG v gs W∧∀a∈gs,InG a W:=⟨h.1.lies okG,fun a ha=>(h.2 a ha).inG⟩
end
def AnsR (w : World) (ms : List Ms) (e : Ending) (w' : World) : Prop := ∃ v gs, e = .returned v ∧ gs.map (·.u) = ms ∧ AnsL w.heap.size v gs w' ∧ Below w.heap.size w w'
theorem zM_in (W:World):InM zMm W:= .inl ⟨rfl,rfl⟩
theorem zM_own (B:Nat) (W:World):OwnM B zMm W:=KOwns.nil _ _
theorem errG_own (B:Nat) (t e:Int) (W:World):OwnGm B (errG t e) W:=⟨zM_own B W,OL.nil B W⟩
theorem un_refusal (t e:Int) (w:World):Calls Tryz.prog 40 #[.int .i64 t,.int .i64 e] w (AnsR w (errL t e)):=by
 by_cases he:e=0
 ·subst he;(go_enter Tryz.func40,Tryz.ntmps40);(go_wp2_with fail);go_ret;exact⟨_,[],rfl,rfl,AnsL.nil _ _,Below.refl _ _⟩
 ·have he':(e==0)=false:=(by simpa using he);have R1:=qH (Blk.new w (gca (errG t e)) KG.T);have HB:=qH (below1 w (.cells (gca (errG t e)) KG.T));have HE:=qH he;clear he;(go_enter Tryz.func40,Tryz.ntmps40);(go_wp2_with(first|(refine buildErr rfl _ _ _ rfl t e rfl rfl rfl ?_)|(refine kbuildOne KG okG _ zeroG rfl _ rfl (gca (errG t e)) rfl (by decide) (fillG1 _) ?_)));go_ret;exact⟨_,[errG t e],rfl,by unfold errL;rw[if_neg HE.out];rfl,AnsL.one (oneG1 R1.out (Nat.le_refl _)) (errG_own _ _ _ _),HB.out⟩
theorem un_pl1 (t:Tm) (b:Nat) (id:Int) (W:World) (ht:Blk t.b (tca t) 93 W) (hb:Blk b #[.int .i64 id] 3 W):Calls Tryz.prog 113 #[.pointer (some ⟨t.b,0,none⟩),.pointer (some ⟨b,0,none⟩)] W fun e w'=>e= .returned (.bool (t.id==id))∧Below W.heap.size W w':=by
 have c0:W.cell? ⟨t.b,0,none⟩=some (.int .i64 t.id):=(cell_of_row _ t.b 0 _ _ _ ht).trans rfl;have c1:W.cell? ⟨b,0,none⟩=some (.int .i64 id):=(cell_of_row _ b 0 _ _ _ hb).trans rfl;clear ht hb;(go_enter Tryz.func113,Tryz.ntmps113);(go_upto_region 1 with fail);(go_quiet (fail));have HB:=qH (belowDrewN W nq);clear c0 c1;generalize W.drewN nq=W1 at*;(go_wp2_with fail);go_ret;exact⟨rfl,HB.out⟩
theorem ptrAt {W:World} {bb o r:Nat} {c:Nat} (h:W.rangeAt bb (o+r*1) (KX.cells c)):W.cell? ⟨bb,o+r*1,none⟩=some (.pointer (some ⟨c,0,none⟩))∧W.cell? ⟨bb,o+r,none⟩=some (.pointer (some ⟨c,0,none⟩)):=by
 have:=h 0 _ rfl;exact⟨this,by rwa [Nat.mul_one] at this⟩
def qId (id : Int) (t : Tm) : Bool := t.id == id
set_option maxHeartbeats 1000000 in
theorem un_index (g:Nat) (cb:Array Value) (q:Tm→Bool) (eg:∀args w,(callFunc g args).run Tryz.prog w= .ok (.enter g args) w) (p:Option Addr) (cap:Nat) (l:List Tm) (hlen:l.length≤1000000) (w:World) (hl:KLies KX (.slice p l.length cap) (l.map (·.b)) w) (hp:∀W,Below w.heap.size w W→∀t∈l,Calls Tryz.prog g (#[.pointer (some ⟨t.b,0,none⟩)]++cb) W fun e w'=>e= .returned (.bool (q t))∧Below W.heap.size W w'):Calls Tryz.prog 112 #[.slice p l.length cap,.func (.func g) #[] cb] w fun e w'=>e= .returned (.int .i64 (kidx q l))∧Below w.heap.size w w':=by
 have HL:=qH hl;have HP:=qH hp;clear hl hp;(go_enter Tryz.func112,Tryz.ntmps112);go_wp2;go_loopg [8] l.length (fun k i wr=>∃r:Nat,r+k=l.length∧i= .int .i64 r∧(∀j b,j<r→l[j]? =some b→q b=false)∧Below w.heap.size w wr)
 case atStart=>exact⟨0,by omega,rfl,fun j _ h=>absurd h (by omega),Below.refl _ _⟩
 case round=>
  obtain⟨r,hr,rfl,hq,hb⟩:=hrel;have HQ:=qH hq;have HB:=qH hb;clear hq hb;by_cases hlt:r<l.length
  ·have hltI:(r:Int)<(l.length:Int):=(by omega);obtain⟨c,hc⟩:=lt_some hlt;obtain⟨b,o,rfl,hrg⟩:=(HL.out.below okX HB.out).at (i:=r) (a:=c.b) (by rw[List.getElem?_map,hc];rfl);obtain⟨c0,c1⟩:=ptrAt hrg;have HI:=qH hc;have HC:=qH (show Calls Tryz.prog g (#[.pointer (some ⟨c.b,0,none⟩)]++cb) wr _ from HP.out wr HB.out c (List.mem_of_getElem? hc));clear hrg hc;cases hq:q c
   ·rw[hq] at HC;have HH:=qH hq;clear hq;(go_wp2_with(go_at_fn g;refine HC.out.mono ?_;rintro e w1 ⟨rfl,hw1⟩));have HB1:=qH (HB.out.trans (hw1.mono HB.out.size));clear hw1 HC c0 c1;go_roundg (l.length - (r+1))
    case measure=>omega
    case rel=>
     refine⟨r+1,by omega,by go_num,fun j b' hj hb'=>?_,HB1.out⟩;by_cases e:j=r
     ·subst e;rw[HI.out] at hb';rw[←Option.some.inj hb'];exact HH.out
     ·exact HQ.out j b' (by omega) hb'
   ·rw[hq] at HC;have HH:=qH (kidx_hit HI.out hq HQ.out);clear hq;(go_wp2_with(go_at_fn g;refine HC.out.mono ?_;rintro e w1 ⟨rfl,hw1⟩));have HB1:=qH (HB.out.trans (hw1.mono HB.out.size));clear hw1 HC c0 c1;go_ret;exact⟨retI HH.out.symm,HB1.out⟩
  ·have hltI:¬(r:Int)<(l.length:Int):=(by omega);have HH:=qH (kidx_none (q:=q) (l:=l) fun j b hj=>HQ.out j b (by have:=(List.getElem?_eq_some_iff.1 hj).1;omega) hj);go_wp2;go_ret;exact⟨retI HH.out.symm,HB.out⟩
theorem UniA.voForm {B:Nat} {x:Um} {W:World} (h:UniA B x W):∃p c,x.vo= .slice p x.ts.length c:=by
 obtain⟨p,c,e⟩:=h.opn.form;exact⟨p,c,by rw[e,List.length_map]⟩
theorem un_place (x:Um) (B:Nat) (id:Int) (hlen:x.ts.length≤100000) (w:World) (h:UniA B x w):Calls Tryz.prog 76 #[.pointer (some ⟨x.p,0,none⟩),.int .i64 id] w fun e w'=>e= .returned (.int .i64 (kidx (qId id) x.ts))∧Below w.heap.size w w':=by
 obtain⟨p,c,hv⟩:=h.voForm;have R0:=qH (Blk.new w #[.int .i64 id] 3);have HB:=qH (below1 w (.cells #[.int .i64 id] 3));have HU:=qH (h.below HB.out);have HV:=qH hv;have HI:=qH (un_index 113 #[.pointer (some ⟨w.heap.size,0,none⟩)] (qId id) (fun _ _=>rfl) p c x.ts (by omega) (w.alloc (.cells #[.int .i64 id] 3)) (by rw[←HV.out];exact HU.out.opn.lies okX) (fun W hb t ht=>un_pl1 t w.heap.size id W ((HU.out.txs t ht).below hb).box (R0.out.below hb)));have c2:(w.alloc (.cells #[.int .i64 id] 3)).cell? ⟨x.p,2,none⟩=some (.slice p x.ts.length c):=(by rw[←HV.out];exact HU.out.vo_);clear h hv HU R0;(go_enter Tryz.func76,Tryz.ntmps76);(go_wp2_with(go_at_call 112;refine HI.out.mono ?_;rintro e w1 ⟨rfl,hw1⟩));have HB1:=qH (HB.out.trans (hw1.mono HB.out.size));clear hw1 HI HB c2;go_ret;exact⟨rfl,HB1.out⟩
theorem infoMod:(Tryz.prog.info? 40).map (·.size)=some 31:=by kernel_rfl
def chgT (ts : List Tm) : List Mm := ts.flatMap (·.ms)
theorem chgT_u (ts:List Tm):(chgT ts).map (·.u)=chgO (ts.map (·.tx)):=by
 induction ts with
 |nil=>rfl
 |cons t ts ih=>show((t::ts).flatMap (·.ms)).map (·.u)=((t::ts).map (·.tx)).flatMap (·.list);rw[List.flatMap_cons,List.map_append,List.map_cons,List.flatMap_cons];congr 1
theorem chgT_take (ts:List Tm) (r:Nat) (t:Tm) (h:ts[r]? =some t):chgT (ts.take (r+1))=chgT (ts.take r)++t.ms:=by
 unfold chgT;rw[List.take_add_one,h,List.flatMap_append];simp
theorem chgT_len (ts:List Tm) (r:Nat):(chgT (ts.take r)).length≤(chgT ts).length:=by
 have e:chgT ts=chgT (ts.take r)++chgT (ts.drop r):=(by unfold chgT;rw[←List.flatMap_append,List.take_append_drop]);rw[e,List.length_append];omega
theorem chgT_in {B:Nat} {x:Um} {W:World} (h:UniA B x W):∀m∈chgT x.ts,InM m W:=fun m hm=>by
 obtain⟨t,ht,h2⟩:=List.mem_flatMap.1 hm;exact((h.txs t ht).acts m h2).inM
set_option maxHeartbeats 1000000 in
theorem un_changes (x:Um) (B:Nat) (hlen:(chgT x.ts).length≤100000∧x.ts.length≤100000) (w:World) (h:UniA B x w):Calls Tryz.prog 68 #[.pointer (some ⟨x.p,0,none⟩)] w fun e w'=>∃v,e= .returned v∧KOwns KM w.heap.size v (chgT x.ts) w'∧Below w.heap.size w w':=by
 obtain⟨p,c,hv⟩:=h.voForm;have HU:=qH h;have HV:=qH hv;have HLEN:=qH hlen.1;have hl2:x.ts.length≤100000:=hlen.2;have c2:w.cell? ⟨x.p,2,none⟩=some (.slice p x.ts.length c):=(by rw[←HV.out];exact HU.out.vo_);clear h hv hlen;obtain⟨n,hn⟩:∃n,n=x.ts.length:=⟨_,rfl⟩;have HN:=qH hn;rw[←hn] at hl2 c2;clear hn;(go_enter Tryz.func68,Tryz.ntmps68);(go_wp2_with fail);clear c2;go_loopg [3,11] n (fun k s3 s11 wr=>∃r:Nat,r+k=n∧s11= .int .i64 r∧KOwns KM w.heap.size s3 (chgT (x.ts.take r)) wr∧Below w.heap.size w wr)
 case atStart=>exact⟨0,by omega,rfl,KOwns.nil _ _,Below.refl _ _⟩
 case round=>
  obtain⟨r,hr,rfl,ho,hb⟩:=hrel;have HO:=qH ho;have HB:=qH hb;obtain⟨p3,c3,e3⟩:=ho.form;subst e3;clear ho hb;by_cases hlt:r<n
  ·have hltI:(r:Int)<(n:Int):=(by omega);obtain⟨t,ht⟩:=lt_some (l:=x.ts) (i:=r) (by have:=HN.out;omega);have HT:=qH ht;obtain⟨b,o,rfl,hrg⟩:=(show KLies KX (.slice p n c) (x.ts.map (·.b)) wr by rw[HN.out,←HV.out];exact(HU.out.below HB.out).opn.lies okX).at (i:=r) (a:=t.b) (by rw[List.getElem?_map,ht];rfl);obtain⟨c0,c1⟩:=ptrAt hrg;have HTA:=qH ((HU.out.txs t (List.mem_of_getElem? ht)).below HB.out);obtain⟨pv,cv,hvv⟩:=HTA.out.own.form;have HVV:=qH hvv;have cv1:wr.cell? ⟨t.b,1,none⟩=some (.slice pv t.ms.length cv):=(by rw[←HVV.out];exact HTA.out.v_);have HST:=qH (chgT_take x.ts r t ht);have HLS:=qH (show(chgT (x.ts.take r)).length+t.ms.length≤1000000 by have h1:=chgT_len x.ts (r+1);rw[chgT_take x.ts r t ht,List.length_append] at h1;have:=HLEN.out;omega);clear hrg ht hvv;(go_wp2_with(refine kappend KM okM rfl _ _ rfl w.heap.size _ (chgT (x.ts.take r)) t.ms rfl HO.out _ rfl (by rw[←HVV.out];exact HTA.out.own.lies okM) HB.out.size HLS.out (fun v' w' ho hg=>?_);refine Hid.out ?_));have HB1:=qH (kbelowOwn HB.out HO.out (Nat.le_refl _) hg);have HO1:=qH ho;clear ho hg HO HB c0 c1 cv1 HTA;refine qH ?_;(go_wp2_with fail);go_roundg (n - (r+1))
   case measure=>omega
   case rel=>exact⟨r+1,by omega,by go_num,by rw[HST.out];exact HO1.out,HB1.out⟩
  ·have hltI:¬(r:Int)<(n:Int):=(by omega);have HF:=qH (show x.ts.take r=x.ts from List.take_of_length_le (by have:=HN.out;omega));(go_wp2_with fail);go_ret;exact⟨_,rfl,by rw[show chgT x.ts=chgT (x.ts.take r) by rw[HF.out]];exact HO.out,HB.out⟩
def LayRet (B : Nat) (w : World) (us : List Ru) (e : Ending) (w' : World) : Prop := ∃ v L, e = .returned v ∧ L.map (·.u) = us ∧ OL B v L w' ∧ Below w.heap.size w w'
theorem OL.ins {w w':World} {v:Value} {L:List Rm} {B:Nat} (h:InS w v L w') (hb:B≤w.heap.size):OL B v L w':=⟨h.1.mono hb,fun y hy=>(h.2.1 y hy).mono hb⟩
set_option maxHeartbeats 2000000 in
set_option maxRecDepth 100000 in
theorem un_apply (v:Value) (l:List Rm) (vm:Value) (ms:List Mm) (B:Nat) (hlen:l.length+ms.length≤40000) (hwl:WfRL l) (hwm:WfML ms) (w:World) (hl:OL B v l w) (hm:KLies KM vm ms w) (hi:∀m∈ms,InM m w) (hB:B≤w.heap.size) (ht:Tab w) (hz:0<w.heap.size):Calls Tryz.prog 42 #[v,vm] w (LayRet B w (layL (l.map (·.u)) (ms.map (·.u)))):=by
 obtain⟨p1,c1,rfl⟩:=hm.form;have HM:=qH (And.intro hm hi);have HL:=qH hl;have HW:=qH (And.intro (WfUL.of hwl) hwm);have HE:=qH (Env.start ht hz);have HBB:=qH hB;have HLN:=qH hlen;have hml:ms.length≤40000:=(by omega);obtain⟨n,hn⟩:∃n,n=ms.length:=⟨_,rfl⟩;have HN:=qH hn;rw[←hn] at hml HM ⊢;clear hm hi hl hwl hwm ht hB hlen hn;(go_enter Tryz.func42,Tryz.ntmps42);(go_wp2_with fail);go_loopg [0,11] n (fun k s0 s11 wr=>∃(r:Nat) (L:List Rm),r+k=n∧s11= .int .i64 r∧OL B s0 L wr∧L.map (·.u)=layL (l.map (·.u)) ((ms.take r).map (·.u))∧Env w wr)
 case atStart=>exact⟨0,l,by omega,rfl,HL.out,rfl,HE.out⟩
 case round=>
  clear HL HE;obtain⟨r,L,hr,rfl,ho,hu,he⟩:=hrel;have HO:=qH ho;have HUL:=qH hu;have HE:=qH he;obtain⟨p0,c0,e0⟩:=ho.1.form;subst e0;clear ho hu he;by_cases hlt:r<n
  ·have hltI:(r:Int)<(n:Int):=(by omega);obtain⟨m,hm⟩:=lt_some (l:=ms) (i:=r) (by have:=HN.out;omega);obtain⟨b,o,rfl,hrg⟩:=(HM.out.1.below okM HE.out.kept).at hm;have HR:=qH hrg;have HX:=qH hm;have HI:=qH ((HM.out.2 m (List.mem_of_getElem? hm)).below HE.out.kept);have HWm:=qH (HW.out.2 m (List.mem_of_getElem? hm));have HTK:=qH (show layL (l.map (·.u)) ((ms.take (r+1)).map (·.u))=lay1 (L.map (·.u)) m.u by rw[List.take_add_one,hm,List.map_append,HUL.out];exact layL_snoc _ _ _);have HWL:=qH (show WfRL L from(layL_wf HW.out.1 fun y hy=>by obtain⟨z,hz,rfl⟩:=List.mem_map.1 hy;exact HW.out.2 z (List.mem_of_mem_take hz)).rl HUL.out);have HLL:=qH (show L.length≤50000 by have h1:=congrArg List.length HUL.out;have h2:=layL_len ((ms.take r).map (·.u)) (l.map (·.u));simp only[List.length_map,List.length_take] at h1 h2;have:=HLN.out;omega);clear hrg hm;(go_upto_region 4 with(first|(refine wpList_load_mid rfl 40 _ rfl b (o+r*31) rfl (mcl m) _ HR.out Tryz.underlying40 rfl infoMod ?_)|(refine wpList_store_row rfl 40 _ _ rfl wr.heap.size (mca m) rfl rfl 40 _ (heap_alloc_new _ _) (by kernel_rfl) rfl (mca_one _) ?_;rw[World.setRow_alloc_new])));have RX:=qH (Blk.new wr (mca m) 40);have HBW:=qH (below1 wr (.cells (mca m) 40));have HO1:=qH (HO.out.below HBW.out);have HE1:=qH (HE.out.below HBW.out);have HI1:=qH (HI.out.below HBW.out);clear HR HO HE HI HBW;generalize hW1:wr.alloc (.cells (mca m) 40)=W1 at*;clear hW1;by_cases hk:applyE (L.map (·.u)) m.u bigI=0
   ·have HA:=qH (apply_at (.slice p0 L.length c0) L HLL.out HWL.out m HWm.out bigI W1 HO1.out.lies HI1.out HE1.out.tab HE1.out.lt (L.map (·.u)) rfl 0 (lay1 (L.map (·.u)) m.u) hk (by unfold lay1;rw[if_pos hk];exact appV_ok hk));clear hk;(go_wp2_with(first|(refine wpList_load_row rfl 40 _ rfl wr.heap.size rfl 40 (mca m) (0,0) _ RX.out Tryz.underlying40 rfl infoMod ?_)|(go_at_call 75;refine HA.out.mono ?_;rintro e w2 ⟨v2,L2,rfl,hu2,hi2⟩;refine Hid.out ?_)));have HO2:=qH (OL.ins hi2 (show B≤W1.heap.size by have:=HE1.out.kept.size;have:=HBB.out;omega));have HU2:=qH (hu2.trans HTK.out.symm);have HE2:=qH (HE1.out.below hi2.2.2);obtain⟨p2,c2,e2⟩:=hi2.1.form;subst e2;clear hu2 hi2 HA HO1 HE1 RX HI1;refine qH ?_;(go_wp2_with fail);go_roundg (n - (r+1))
    case measure=>omega
    case rel=>exact⟨r+1,L2,by omega,by go_num,HO2.out,HU2.out,HE2.out⟩
   ·have HK:=qH (show L.map (·.u)=layL (l.map (·.u)) ((ms.take (r+1)).map (·.u)) by rw[HTK.out];unfold lay1;rw[if_neg hk]);obtain⟨kk,hkk⟩:∃kk,kk=applyE (L.map (·.u)) m.u bigI:=⟨_,rfl⟩;rw[←hkk] at hk;have hkf:(kk==0)=false:=(by simpa using hk);have HA:=qH (apply_at (.slice p0 L.length c0) L HLL.out HWL.out m HWm.out bigI W1 HO1.out.lies HI1.out HE1.out.tab HE1.out.lt (L.map (·.u)) rfl kk _ hkk.symm rfl);clear hkk hk;(go_wp2_with(first|(refine wpList_load_row rfl 40 _ rfl wr.heap.size rfl 40 (mca m) (0,0) _ RX.out Tryz.underlying40 rfl infoMod ?_)|(go_at_call 75;refine HA.out.mono ?_;rintro e w2 ⟨v2,L2,rfl,hu2,hi2⟩;refine Hid.out ?_)));have HO2:=qH (HO1.out.below hi2.2.2);have HE2:=qH (HE1.out.below hi2.2.2);clear hu2 hi2 HA HO1 HE1 RX HI1;refine qH ?_;(go_wp2_with fail);go_roundg (n - (r+1))
    case measure=>omega
    case rel=>exact⟨r+1,L,by omega,by go_num,HO2.out,HK.out,HE2.out⟩
  ·have hltI:¬(r:Int)<(n:Int):=(by omega);have HF:=qH (show ms.take r=ms from List.take_of_length_le (by have:=HN.out;omega));(go_wp2_with fail);go_ret;exact⟨_,L,rfl,by rw[HUL.out,HF.out],HO.out,HE.out.kept⟩
structure FitM (n : Nat) (x : Um) : Prop where
  fit : Fit n x.un
  n : n ≤ 9000
section
variable {n : Nat} {x : Um}
theorem FitM.wfR (h:FitM n x):WfRL x.L:=(show WfUL (x.L.map (·.u)) from h.fit.base).rl rfl
theorem FitM.len (h:FitM n x):(chgT x.ts).length≤9000∧x.ts.length≤9000∧x.L.length+(chgT x.ts).length≤9000:=by
 have h1:=h.fit.size;have h2:=h.fit.opn;have h3:=h.n;have e:(chgO x.un.opn).length=(chgT x.ts).length:=(by show(chgO (x.ts.map (·.tx))).length=_;rw[←chgT_u,List.length_map]);rw[e] at h1;simp only[Um.un,List.length_map] at h1 h2;omega
theorem FitM.wfM (h:FitM n x):WfML (chgT x.ts):=fun m hm=>h.fit.chg m.u (by
 show m.u∈chgO (x.ts.map (·.tx));rw[←chgT_u];exact List.mem_map_of_mem hm)
theorem view_un (x:Um):layL (x.L.map (·.u)) ((chgT x.ts).map (·.u))=x.un.view:=by
 rw[chgT_u];rfl
end
set_option maxHeartbeats 1000000 in
theorem un_view (x:Um) (B k:Nat) (hF:FitM k x) (w:World) (h:UniA B x w) (ht:Tab w) (hz:0<w.heap.size):Calls Tryz.prog 36 #[.pointer (some ⟨x.p,0,none⟩)] w (LayRet B w x.un.view):=by
 obtain⟨pb,cb,hvb⟩:=h.base.1.form;have HVB:=qH hvb;have HU:=qH (h.below (Below.refl _ w).drew);have HE:=qH ((Env.start ht hz).drew);have HLC:=qH (show(chgT x.ts).length≤100000∧x.ts.length≤100000 by have:=hF.len;omega);have HNB:=qH (show x.L.length+(chgT x.ts).length≤40000 by have:=hF.len;omega);have HWB:=qH hF.wfR;have HWC:=qH hF.wfM;clear h ht hvb hF;rw[←view_un];(go_enter Tryz.func36,Tryz.ntmps36);(go_upto_region 1 with fail);refine wp_region_held_drew (S:=fun W'=>W'.cell? ⟨x.p,1,none⟩=some (.slice pb x.L.length cb)) (by kernel_rfl) (by rw[←HVB.out];exact HU.out.vb_) (fun hS=>?_);generalize w.drew=W at*;refine sR 0 hS ?_;refine sR 1 hS ?_;refine sR 2 hS ?_;refine sV 3 rfl (fun w hSw=>by have c0:=hSw;go_simp<;>with_reducible rfl) hS ?_;refine sR 4 hS ?_;refine sC 5 (fun K hK=>?_);go_simp;refine(un_changes x B HLC.out W HU.out).mono ?_;rintro e w1 ⟨vc,rfl,hvc,hw1⟩;have HVC:=qH hvc;have HB1:=qH hw1;have HU1:=qH (HU.out.below hw1);have HE1:=qH (HE.out.below hw1);refine hK.out _ _ ((hw1.cell (p:=⟨x.p,1,none⟩) HU.out.lt).trans hS) (fun hS=>?_);clear hK K hvc hw1;(try simp only[Act.put,sA,sB,sE]);refine sC 6 (fun K hK=>?_);go_simp;refine(un_apply (.slice pb x.L.length cb) x.L vc (chgT x.ts) B HNB.out HWB.out HWC.out w1 (by rw[←HVB.out];exact HU1.out.base) (HVC.out.lies okM) (chgT_in HU1.out) (by have:=HU1.out.lt;have:=HU1.out.ge;omega) HE1.out.tab HE1.out.lt).mono ?_;rintro e w2 ⟨v2,L2,rfl,hu2,ho2,hw2⟩;refine hK.out _ _ ((hw2.cell (p:=⟨x.p,1,none⟩) HU1.out.lt).trans hS) (fun hS=>?_);have HR:=qH (And.intro hu2 (And.intro ho2 (HE1.out.below hw2).kept));clear hK K hu2 ho2 hw2;(try simp only[Act.put,sA,sB,sE]);refine sR 7 hS ?_;refine sD ?_;clear hS;(go_wp2_with fail);go_ret;exact⟨_,L2,rfl,HR.out.1,HR.out.2.1,HR.out.2.2⟩
theorem pl_tm (ts:List Tm) (id:Int):plO (ts.map (·.tx)) id=(ts.findIdx? (qId id)).getD ts.length:=by
 unfold plO;rw[List.findIdx?_map,List.length_map];rfl
theorem kidx_pl (ts:List Tm) (id:Int):(kidx (qId id) ts= -1∧¬plO (ts.map (·.tx)) id<(ts.map (·.tx)).length)∨∃(i:Nat) (t:Tm),kidx (qId id) ts=(i:Int)∧plO (ts.map (·.tx)) id=i∧ts[i]? =some t∧t.id=id:=by
 rw[pl_tm,List.length_map];unfold kidx;cases h:ts.findIdx? (qId id) with
 |none=>exact .inl ⟨rfl,by simp⟩
 |some i=>rw[List.findIdx?_eq_some_iff_getElem] at h;obtain⟨hi,h1,_⟩:=h;exact .inr ⟨i,ts[i],rfl,rfl,List.getElem?_eq_getElem hi,by simpa [qId] using h1⟩
theorem zeroX:((Tryz.prog.info? KX.T).bind (·.zero)).map (·.cells)=some #[.pointer none]:=by kernel_rfl
theorem fillX (b:Nat):Instr.fill (fun i'=>some (i'*1,1)) ((Array.range (1*1)).map ((#[.pointer none]:Array Value)[· % (#[.pointer none]:Array Value).size]!)) [(0,.pointer (some ⟨b,0,none⟩))]=some #[.pointer (some ⟨b,0,none⟩)]:=by kernel_rfl
def newTm (b : Nat) (id : Int) : Tm := ⟨b, id, .slice none 0 0, [], false⟩
theorem builtTx (id:Int):Tryz.prog.built 93 [(0,.int .i64 id)]=some (tca (newTm 0 id)):=by kernel_rfl
theorem buildTx {ops:Array Oper} {rest:List Oper} {o:Oper} {a:Act} {w:World} {Q:Exit→Act→World→Prop} (hg:o.guard=none) (x:Operand) (ho:o.op= .build 93 #[(0,x)]) (n:Int) (hx:a.eval x= .int .i64 n) (k:wpList Tryz.prog ops Q rest (a.put o.dst (.agg (tca (newTm 0 n)))) w):wpList Tryz.prog ops Q (o::rest) a w:=by
 have e:((#[(0,x)]:Array (Nat×Operand)).map fun(p:Nat×Operand)=>(p.1,a.eval p.2)).toList=[(0,.int .i64 n)]:=(by simp[hx]);have e':=congrArg (Tryz.prog.built 93) e;rw[builtTx] at e';refine wpList_build hg 93 _ ho (by rw[e'];rfl) ?_;rw[e'];exact k
theorem infoPs:(Tryz.prog.info? 79).map (·.size)=some 1:=by kernel_rfl
theorem Blk.ptr {b c:Nat} {W:World} (h:Blk b #[.pointer (some ⟨c,0,none⟩)] KX.T W):KLies KX (.slice (some ⟨b,0,none⟩) 1 1) [c] W:=Blk.klies (l:=[c]) h okX (by simp[Kd.flat])
structure BoxU (B p : Nat) (W : World) : Prop where
  typ : Typ W p 81
  ge : B ≤ p
theorem UniA.boxU {B:Nat} {x:Um} {W:World} (h:UniA B x W):BoxU B x.p W:=⟨h.box.typ,h.ge⟩
theorem UniA.wrote {B p:Nat} {x:Um} {W W':World} (h:BoxU B p W) (e:x.p=p) (hW:Blk p (uca x) 81 W') (k:Fr [p] W W') (hL:OL B x.vb x.L W) (ho:KOwns KX B x.vo (x.ts.map (·.b)) W) (ht:∀t∈x.ts,TxA B t W) (hn:(mutsT x.ts).Nodup):UniA B x W':=by
 subst e;have hM:Muts [x.p] W:=fun g hg=>(by simp only[List.mem_cons,List.not_mem_nil,or_false] at hg;subst hg;exact⟨_,by decide,h.typ⟩);refine⟨hW,h.ge,hL.fr k hM,k.owns ho fun g hg hm=>?_,fun t htt=>(ht t htt).fr k hM fun g hg hm=>?_,hn⟩
 ·simp only[List.mem_cons,List.not_mem_nil,or_false] at hm;subst hm;exact Typ.ne (ho.typ hg) h.typ (by decide) rfl
 ·simp only[List.mem_cons,List.not_mem_nil,or_false] at hm;subst hm;rcases List.mem_cons.1 hg with e|hg
  ·exact Typ.ne h.typ (ht t htt).box.typ (by decide) e
  ·exact Typ.ne h.typ ((ht t htt).own.typ (mem_ownL.1 hg)) (by decide) rfl
theorem mutsT_append (a b:List Tm):mutsT (a++b)=mutsT a++mutsT b:=by simp[mutsT]
theorem mutsT_new (b:Nat) (id:Int):mutsT [newTm b id]=[b]:=rfl
theorem Fr.tr {M:List Nat} {W W' W'':World} (h:Fr M W W') (k:Fr M W' W''):Fr M W W'':=h.trans k fun _ hg=> .inl hg
def TrRet (x : Um) (B : Nat) (id : Int) (w : World) (e : Ending) (w' : World) : Prop :=
  ∃ (x' : Um) (t : Tm), e = .returned (.pointer (some ⟨t.b, 0, none⟩)) ∧ x'.ts[plO x.un.opn id]? = some t ∧ x'.un = { x.un with opn := opnO x.un.opn id } ∧ UniA B x' w' ∧ x'.p = x.p ∧ UFr x x' w w'
set_option maxHeartbeats 2000000 in
set_option maxRecDepth 100000 in
theorem un_trans (x:Um) (B:Nat) (id:Int) (hlen:x.ts.length≤100000) (w:World) (h:UniA B x w):Calls Tryz.prog 72 #[.pointer (some ⟨x.p,0,none⟩),.int .i64 id] w (TrRet x B id w):=by
 obtain⟨p,c,hv⟩:=h.voForm;have HV:=qH hv;have HP:=qH (un_place x B id hlen w h);have HU:=qH h;clear h hv;rcases kidx_pl x.ts id with⟨e1,e2⟩|⟨i,t,e1,e2,ht,hid⟩
 ·rw[e1] at HP;have HPL:=qH e2;clear e1 e2;obtain⟨n,hn⟩:∃n,n=x.ts.length:=⟨_,rfl⟩;have HN:=qH hn;rw[←hn] at hlen HV;clear hn;(go_enter Tryz.func72,Tryz.ntmps72);(go_wp2_with(go_at_call 76;refine HP.out.mono ?_;rintro e w1 ⟨rfl,hw1⟩;refine Hid.out ?_));have HU1:=qH (HU.out.below hw1);have HB1:=qH hw1;clear hw1 HP HU;have RT:=qH (Blk.new w1 (tca (newTm w1.heap.size id)) 93);have HB2:=qH (below1 w1 (.cells (tca (newTm w1.heap.size id)) 93));have HU2:=qH (HU1.out.below HB2.out);have e0:(tca (newTm 0 id))=tca (newTm w1.heap.size id):=rfl;refine qH ?_;(go_upto_region 5 with(refine buildTx rfl _ rfl id rfl ?_;rw[e0]));clear e0;obtain⟨nb,hnb⟩:∃nb,nb=w1.heap.size:=⟨_,rfl⟩;rw[←hnb] at RT HU2 HB2 ⊢;have HNB:=qH hnb;clear hnb;generalize hW2:w1.alloc (.cells (tca (newTm nb id)) 93)=w2 at*;clear hW2;have c2:w2.cell? ⟨x.p,2,none⟩=some (.slice p n c):=(by rw[←HV.out];exact HU2.out.vo_);have RX:=qH (Blk.new w2 #[.pointer (some ⟨nb,0,none⟩)] KX.T);have HB3:=qH (below1 w2 (.cells #[.pointer (some ⟨nb,0,none⟩)] KX.T));have HU3:=qH (HU2.out.below HB3.out);have RT3:=qH (RT.out.below HB3.out);have HOX:=qH (show KOwns KX B (.slice p n c) (x.ts.map (·.b)) (w2.alloc (.cells #[.pointer (some ⟨nb,0,none⟩)] KX.T)) by rw[←HV.out];exact HU3.out.opn);have HLE:=qH (show B≤(w2.alloc (.cells #[.pointer (some ⟨nb,0,none⟩)] KX.T)).heap.size by have:=HU3.out.lt;have:=HU3.out.ge;omega);have HLL:=qH (show(x.ts.map (·.b)).length+[nb].length≤1000000 by rw[List.length_map,←HN.out,List.length_singleton];omega);(go_wp2_with(first|(refine kbuild KX okX 1 #[.pointer none] zeroX rfl _ rfl [(0,.pointer (some ⟨nb,0,none⟩))] rfl #[.pointer (some ⟨nb,0,none⟩)] (by decide) (by decide) (fillX nb) ?_)|(refine kappendW KX okX rfl _ _ rfl B _ _ [nb] rfl HOX.out _ rfl (Blk.ptr RX.out) HLE.out HLL.out (fun v' w4 ho hg hn=>?_);refine Hid.out ?_)));generalize hW3:w2.alloc (.cells #[.pointer (some ⟨nb,0,none⟩)] KX.T)=w3 at*;clear hW3 c2;have HO4:=qH ho;have HG4:=qH hg;have HN4:=qH hn;have HF4:=qH (show Fr (ownL x.vo) w3 w4 from Fr.grown hg fun k hk=>by rw[mem_ownL,HV.out];exact hk);have HM4:=qH (show Muts (ownL x.vo) w3 from fun g hg'=>HU3.out.muts g (by simp only[Um.muts,List.mem_cons,List.mem_append];exact .inr (.inl hg')));have HX4:=qH (show Blk x.p (uca x) 81 w4 from HF4.out.blk HU3.out.box fun hm=>HU3.out.notVo (mem_ownL.1 hm));have HL4:=qH (HU3.out.base.fr HF4.out HM4.out);have HT4:=qH (show ∀t∈x.ts,TxA B t w4 from fun t ht=>(HU3.out.txs t ht).fr HF4.out HM4.out fun g hg' hm=>HU3.out.voTx (mem_ownL.1 hm) (mem_mutsT.2 ⟨t,ht,hg'⟩));have HNT:=qH (show TxA B (newTm nb id) w4 from⟨HF4.out.blk RT3.out fun hm=>Typ.ne (HU3.out.opn.typ (mem_ownL.1 hm)) RT3.out.typ (by decide) rfl,by show B≤nb;rw[HNB.out];have:=HU1.out.lt;have:=HU1.out.ge;omega,KOwns.nil _ _,fun m hm=>by cases hm⟩);clear ho hg hn HOX HLE RX;have HTH:=qH (show w4.there x.p 2 1 from HX4.out.there (by show 3≤4;decide));have HBX:=qH (HX4.out.one (k:=2) v');have HFW:=qH (Fr.cell w4 ⟨x.p,2,none⟩ v' (M:=[x.p]) (by simp));have hone:v'.oneCell'=true:=(by obtain⟨q,cc,e⟩:=HO4.out.form;rw[e];rfl);have HONE:=qH hone;clear hone;refine qH ?_;(go_wp2_with(refine storeCell rfl 79 _ _ rfl x.p 2 v' rfl rfl HONE.out HTH.out infoPs ?_;refine Hid.out ?_));have HX5:=qH (show UniA B ⟨x.p,x.room,x.vb,x.L,v',x.ts++[newTm nb id],x.fail⟩ (w4.setCell ⟨x.p,2,none⟩ v') from UniA.wrote (p:=x.p) ⟨HX4.out.typ,HU1.out.ge⟩ rfl HBX.out HFW.out HL4.out (by have:=HO4.out;simpa [newTm] using this) (fun t ht=>by
    rcases List.mem_append.1 ht with q|q
    ·exact HT4.out t q
    ·simp only[List.mem_cons,List.not_mem_nil,or_false] at q;subst q;exact HNT.out) (by show(mutsT (x.ts++[newTm nb id])).Nodup;rw[mutsT_append,mutsT_new,List.nodup_append];refine⟨HU1.out.nod,by simp,fun a ha b hb=>?_⟩;simp only[List.mem_cons,List.not_mem_nil,or_false] at hb;subst hb;have:=HU1.out.muts.lt a (by simp only[Um.muts,List.mem_cons,List.mem_append];exact .inr (.inr ha));have:=HNB.out;omega))
  have HS3:=qH (show Below w.heap.size w w3 from(HB1.out.trans (HB2.out.mono (by rw[HNB.out];exact HB1.out.size))).trans (HB3.out.mono (Nat.le_trans HB1.out.size HB2.out.size)));have HUF:=qH (show UFr x ⟨x.p,x.room,x.vb,x.L,v',x.ts++[newTm nb id],x.fail⟩ w (w4.setCell ⟨x.p,2,none⟩ v') from⟨(Fr.of HS3.out).tr ((HF4.out.mono fun g hg=> .inl (by simp only[Um.muts,List.mem_cons,List.mem_append];exact .inr (.inl hg))).tr (HFW.out.mono fun g hg=> .inl (by
    simp only[List.mem_cons,List.not_mem_nil,or_false] at hg;subst hg;simp[Um.muts]))),fun g hg=>by
    simp only[Um.muts,List.mem_cons,List.mem_append,mutsT_append,mutsT_new,List.not_mem_nil,or_false] at hg;rcases hg with rfl|hg|hg|rfl
    ·exact .inl (by simp[Um.muts])
    ·have e:=mem_ownL.1 hg;rcases HN4.out with q|q
     ·rw[q,←HV.out] at e;exact .inl (by simp only[Um.muts,List.mem_cons,List.mem_append];exact .inr (.inl (mem_ownL.2 e)))
     ·rw[q] at e;injection e with e;have:=HS3.out.size;exact .inr (by omega)
    ·exact .inl (by simp only[Um.muts,List.mem_cons,List.mem_append];exact .inr (.inr hg))
    ·have:=HB1.out.size;have:=HNB.out;exact .inr (by omega)⟩)
  clear HTH HBX HFW HONE HO4 HN4 HF4 HM4 HX4 HL4 HT4 HNT HG4 HU3 RT3;generalize w4.setCell ⟨x.p,2,none⟩ v'=w5 at*;refine qH ?_;(go_wp2_with fail);go_ret;have hpl:plO x.un.opn id=x.ts.length:=(by have h1:=HPL.out;have h2:=plO_le (x.ts.map (·.tx)) id;rw[List.length_map] at h1 h2;show plO (x.ts.map (·.tx)) id=_;omega);refine⟨⟨x.p,x.room,x.vb,x.L,v',x.ts++[newTm nb id],x.fail⟩,newTm nb id,rfl,?_,?_,HX5.out,rfl,HUF.out⟩
  ·rw[hpl,List.getElem?_append_right (Nat.le_refl _)];simp
  ·show(⟨x.room,x.L.map (·.u),(x.ts++[newTm nb id]).map (·.tx),x.fail⟩:Un)=⟨x.room,x.L.map (·.u),opnO (x.ts.map (·.tx)) id,x.fail⟩;unfold opnO;rw[if_neg HPL.out,List.map_append];rfl
 ·rw[e1] at HP;have HT:=qH ht;have HPL:=qH e2;have hlt:i<x.ts.length:=(List.getElem?_eq_some_iff.1 ht).1;obtain⟨n,hn⟩:∃n,n=x.ts.length:=⟨_,rfl⟩;have HN:=qH hn;rw[←hn] at hlen HV hlt;have hltI:(i:Int)<(n:Int):=(by omega);have hge:(i:Int)≥0:=(by omega);have hge2:(0:Int)≤(i:Int):=(by omega);clear hn e1 e2 ht hid;(go_enter Tryz.func72,Tryz.ntmps72);(go_wp2_with(go_at_call 76;refine HP.out.mono ?_;rintro e w1 ⟨rfl,hw1⟩;refine Hid.out ?_));have HU1:=qH (HU.out.below hw1);have HB1:=qH hw1;have c2:w1.cell? ⟨x.p,2,none⟩=some (.slice p n c):=(by rw[←HV.out];exact HU1.out.vo_);obtain⟨b,o,rfl,hrg⟩:=(show KLies KX (.slice p n c) (x.ts.map (·.b)) w1 by rw[←HV.out];exact HU1.out.opn.lies okX).at (i:=i) (a:=t.b) (by rw[List.getElem?_map,HT.out];rfl);obtain⟨c0,c1⟩:=ptrAt hrg;clear hw1 HP HU hrg;refine qH ?_;(go_wp2_with fail);go_ret;refine⟨x,t,rfl,?_,?_,HU1.out,rfl,UFr.of x HB1.out⟩
  ·show x.ts[plO (x.ts.map (·.tx)) id]? =some t;rw[HPL.out];exact HT.out
  ·show x.un=⟨x.room,x.L.map (·.u),opnO (x.ts.map (·.tx)) id,x.fail⟩;unfold opnO;rw[if_pos (by rw[HPL.out,List.length_map];exact(List.getElem?_eq_some_iff.1 HT.out).1)];rfl
theorem elemX:Tryz.prog.underlying 79=some (.slice (Tryz.prog.elem 79)):=by kernel_rfl
theorem sizeX (w:World):(Go.sizeOf (Tryz.prog.elem 79)).run Tryz.prog w= .ok 1 w:=by
 obtain⟨i,z,hi,_,hs,_,_⟩:=okX.info;have e:Tryz.prog.elem 79=KX.T:=(by kernel_rfl);rw[e];simp[Go.sizeOf,typeInfo,hi,hs]
theorem execFromX {a:Act} {oi:Oper} {w:World} {x y:Operand} (ho:oi.op= .slice 79 x (some y) none none) (p:Option Addr) (len cap c:Nat) (hx:a.eval x= .slice p len cap) (hy:a.eval y= .int .i64 (c:Int)) (hc:c≤len):(execOp a.eval oi).run Tryz.prog w= .ok (.value (fromV 1 p len cap c)) w:=by
 unfold execOp;simp only[ho,hx,Option.map_some,Option.map_none,hy,Sem.run_bind];rw[run_sliceAt_slice (h:=elemX),run_slice_l (ht:=elemX) (h0:=by omega) (h1:=by omega),sizeX];simp[Result.andThen,sliced,fromV]
theorem execUptoX {a:Act} {oi:Oper} {w:World} {x y:Operand} (ho:oi.op= .slice 79 x none (some y) none) (p:Option Addr) (len cap c:Nat) (hx:a.eval x= .slice p len cap) (hy:a.eval y= .int .i64 (c:Int)) (hc:c≤len) (hl:len≤cap):(execOp a.eval oi).run Tryz.prog w= .ok (.value (.slice p c cap)) w:=by
 unfold execOp;simp only[ho,hx,Option.map_some,Option.map_none,hy,Sem.run_bind];rw[run_sliceAt_slice (h:=elemX),run_slice_h (ht:=elemX) (h0:=by omega) (h2:=by omega),sizeX];have e:(if cap=0 then p else p.map (·.add (0*1)))=p:=by
  split
  ·rfl
  ·cases p with
   |none=>rfl
   |some ad=>simp[Addr.add]
 simp only[Result.andThen,sliced,Int.toNat_natCast,Nat.sub_zero,e];rfl
theorem append_roomX (w:World) (ty:TypeId) (i:TypeInfo) (hi:Tryz.prog.info? KX.T=some i) (hs:i.size=1) (g sLen sCap:Nat) (cur:Array Value) (hg:w.heap[g]? =some (.cells cur KX.T (0,0))) (a:Addr) (m c:Nat) (news:List Value) (hl:news.length=m) (hnews:∀j u,news[j]? =some u→w.cell? (a.add j)=some u) (h1:∀u∈news,u.oneCell'=true) (hroom:sLen+m≤sCap) (hfit:sLen+news.length≤cur.size):(Builtin.append_ #[KX.S,KX.S] ty #[.slice (some ⟨g,0,none⟩) sLen sCap,.slice (some a) m c]).run Tryz.prog w= .ok (.slice (some ⟨g,0,none⟩) (sLen+m) sCap) (w.setRow g (cur.toList.take sLen++news++cur.toList.drop (sLen+news.length)).toArray):=by
 have hf:=run_firstCells_some (P:=Tryz.prog) w i.size m a m c news (by rw[hs,Nat.mul_one];exact hl) hnews;have hst:=run_storeCells_at Tryz.prog g sLen KX.T news 0 cur w hg (by simpa using hfit) h1;simp only[Nat.add_zero] at hst;simp only[hs] at hf;simp[Builtin.append_,run_underlying okX.under,sizeOf,typeInfo,hi,hs,Builtin.lenOf,hroom,hf,Addr.add_lit,hst]
section
variable {g cap n i : Nat} {bs : List Nat} {w w' : World}
def ptrC (b : Nat) : Value := .pointer (some ⟨b, 0, none⟩)
theorem KAt.join (h:KAt KX g cap bs w) (hi:i<bs.length) (cur:Array Value) (hc:w.heap[g]? =some (.cells cur KX.T (0,0))):KAt KX g cap (bs.eraseIdx i) (w.setRow g (cur.toList.take i++((bs.drop (i+1)).map ptrC)++cur.toList.drop (i+((bs.drop (i+1)).map ptrC).length)).toArray):=by
 obtain⟨h1,h2,cur',h3,h4,h5⟩:=h;rw[hc] at h3;injection h3 with h3;injection h3 with h3;subst h3;have h4':cur.size=cap:=(by rw[h4];exact Nat.mul_one _);have hsz:cur.toList.length=cap:=(by simpa using h4');have hl:(bs.eraseIdx i).length=bs.length - 1:=(by rw[List.length_eraseIdx,if_pos hi]);refine⟨by omega,h2,_,setRow_heap _ _ _ _ _ _ hc,?_,fun k a ha j u hu=>?_⟩
 ·simp[hsz];omega
 ·have hj:j=0:=(by have:=(List.getElem?_eq_some_iff.1 hu).1;simpa using this);subst hj;have hu':u=ptrC a:=(by simpa [ptrC] using hu.symm);subst hu';have hk:k<bs.length - 1:=(by have:=(List.getElem?_eq_some_iff.1 ha).1;omega);have ek:k*KX.n+0=k:=(by show k*1+0=k;omega);rw[ek,List.getElem?_toArray];by_cases hki:k<i
  ·rw[List.append_assoc,List.getElem?_append_left (by rw[List.length_take];omega),List.getElem?_take_of_lt hki];rw[List.getElem?_eraseIdx_of_lt hki] at ha;have:=h5 k a ha 0 (ptrC a) rfl;rw[show k*KX.n+0=k by show k*1+0=k;omega] at this;simpa using this
  ·rw[List.getElem?_eraseIdx_of_ge (by omega)] at ha;rw[List.append_assoc,List.getElem?_append_right (by rw[List.length_take];omega),List.length_take,Nat.min_eq_left (by omega),List.getElem?_append_left (by rw[List.length_map,List.length_drop];omega),List.getElem?_map,List.getElem?_drop,show i+1+(k - i)=k+1 by omega,ha];rfl
theorem run_clearX (w:World) (ty:TypeId) (b o c:Nat) (hc:(w.cell? ⟨b,o,none⟩).isSome=true) (hf:w.frozen? ⟨b,o,none⟩=false):(Builtin.clear_ #[79] ty #[.slice (some ⟨b,o,none⟩) 1 c]).run Tryz.prog w= .ok (.tuple #[]) (w.setCell ⟨b,o,none⟩ (.pointer none)):=by
 obtain⟨i,z,hi,hz,hs,hb,hzc⟩:=okX.info;have hz2:z.cells=#[.pointer none]:=zeroOf zeroX hi hz;have hv:(zeroValue KX.T).run Tryz.prog w= .ok z w:=(by simp[zeroValue,typeInfo,hi,hz]);have hst:=run_storeCells_cells (P:=Tryz.prog) b o [.pointer none] 0 w (by simpa using hc) (by simpa using hf) (by simp[Value.oneCell']);simp only[Nat.add_zero] at hst;have hz3:Builtin.zeroCells z.cells 1=#[.pointer none]:=(by rw[hz2];kernel_rfl);simp[Builtin.clear_,run_underlying okX.under,hv,hz3,hst];rfl
theorem appendX {o:Oper} {a:Act} {w:World} {Kt:Act→World→Prop} {Q:Exit→Act→World→Prop} (s x:Operand) (ho:o.op= .call { callee:= .builtin .append,args:=#[s,x],argTypes:=#[KX.S,KX.S]}) (g i cap n:Nat) (bs:List Nat) (hn:n=bs.length) (hA:KAt KX g cap bs w) (hi:i+1≤n) (hs:a.eval s= .slice (some ⟨g,0,none⟩) i cap) (hx:a.eval x=fromV 1 (some ⟨g,0,none⟩) n cap (i+1)) (h:∀w',KAt KX g cap (bs.eraseIdx i) w'→Fr [g] w w'→Kt (a.put o.dst (.slice (some ⟨g,0,none⟩) (i+(n - (i+1))) cap)) w'):o.wp Tryz.prog a w Kt Q:=by
 subst hn;obtain⟨h1,h2,cur,h3,h4,h5⟩:=hA;obtain⟨ti,z,hi1,hz,hsz,hb,hc⟩:=okX.info;have h4':cur.size=cap:=(by rw[h4];exact Nat.mul_one _);have hA:KAt KX g cap bs w:=⟨h1,h2,cur,h3,h4,h5⟩;obtain⟨ad,had,hnews⟩:∃ad,(if cap=i+1 then(some ⟨g,0,none⟩:Option Addr) else(some ⟨g,0,none⟩:Option Addr).map (·.add ((i+1)*1)))=some ad∧∀j u,((bs.drop (i+1)).map ptrC)[j]? =some u→w.cell? (ad.add j)=some u:=by
  by_cases hcc:cap=i+1
  ·refine⟨⟨g,0,none⟩,by rw[if_pos hcc],fun j u hu=>?_⟩;rw[List.drop_of_length_le (by omega)] at hu;simp at hu
  ·refine⟨⟨g,i+1,none⟩,by rw[if_neg hcc];simp[Addr.add],fun j u hu=>?_⟩;rw[List.getElem?_map,List.getElem?_drop,Option.map_eq_some_iff] at hu;obtain⟨b,hb,rfl⟩:=hu;have:=hA.range hb 0 (ptrC b) rfl;rw[show(i+1+j)*KX.n+0=i+1+j by show(i+1+j)*1+0=_;omega] at this;rw[Addr.add_mid];exact this
 have hrun:=append_roomX w o.type ti hi1 hsz g i cap cur h3 ad (bs.length - (i+1)) (cap - (i+1)) ((bs.drop (i+1)).map ptrC) (by rw[List.length_map,List.length_drop]) hnews (fun u hu=>by obtain⟨b,_,rfl⟩:=List.mem_map.1 hu;rfl) (by omega) (by rw[List.length_map,List.length_drop];omega);have hx':a.eval x= .slice (some ad) (bs.length - (i+1)) (cap - (i+1)):=(by rw[hx];unfold fromV;rw[had]);have hj:=hA.join (i:=i) (by omega) cur h3;unfold Oper.wp execOp;simp only[ho,resolve,invoke,builtin,Sem.run_bind,Sem.run_pure,Result.andThen_ok,List.map_toArray,List.map_cons,List.map_nil,hs,hx',hrun];exact h _ hj (Fr.row w g _ (by simp))
theorem wpThreeX {ops:Array Oper} {rest:List Oper} {oi:Oper} {a:Act} {w:World} {Q:Exit→Act→World→Prop} (hg:oi.guard=none) (x y z u:Operand) (ho:oi.op= .slice 79 x (some y) (some z) (some u)) (p:Option Addr) (len cap:Nat) (l h m:Int) (hx:a.eval x= .slice p len cap) (hy:a.eval y= .int .i64 l) (hz:a.eval z= .int .i64 h) (hu:a.eval u= .int .i64 m) (h0:0≤l) (h1:l≤h) (h2:h≤m) (h3:m≤cap) (hQ:∀v,wpList Tryz.prog ops Q rest (a.put oi.dst v) w):wpList Tryz.prog ops Q (oi::rest) a w:=wpList_plain hg fun _ hK=>by
 have e:(execOp a.eval oi).run Tryz.prog w= .ok (.value (sliced p l.toNat h.toNat m.toNat 1)) w:=(by unfold execOp;simp only[ho,hx,Option.map_some,hy,hz,hu,Sem.run_bind];rw[run_sliceAt_slice (h:=elemX),run_slice_lhm (ht:=elemX) (h0:=h0) (h1:=h1) (h2:=h2) (h3:=h3),sizeX];rfl);unfold Oper.wp;rw[e];exact hK _ _ (hQ _)
theorem wpLastX {ops:Array Oper} {rest:List Oper} {oi:Oper} {a:Act} {w:World} {Q:Exit→Act→World→Prop} (hg:oi.guard=none) (x y z:Operand) (ho:oi.op= .slice 79 x (some y) (some z) none) (g len cap m n:Nat) (hx:a.eval x= .slice (some ⟨g,0,none⟩) len cap) (hy:a.eval y= .int .i64 (m:Int)) (hz:a.eval z= .int .i64 (n:Int)) (hn:n=m+1) (hc:n≤cap) (hQ:wpList Tryz.prog ops Q rest (a.put oi.dst (.slice (some ⟨g,m,none⟩) 1 (cap - m))) w):wpList Tryz.prog ops Q (oi::rest) a w:=wpList_plain hg fun _ hK=>by
 subst hn;have e:(execOp a.eval oi).run Tryz.prog w= .ok (.value (.slice (some ⟨g,m,none⟩) 1 (cap - m))) w:=(by unfold execOp;simp only[ho,hx,Option.map_some,Option.map_none,hy,hz,Sem.run_bind];rw[run_sliceAt_slice (h:=elemX),run_slice_lh (ht:=elemX) (h0:=by omega) (h1:=by omega) (h2:=by omega),sizeX];have hne:cap≠m:=(by omega);simp[Result.andThen,sliced,hne,Addr.add];omega);unfold Oper.wp;rw[e];exact hK _ _ hQ
theorem wpClearX {ops:Array Oper} {rest:List Oper} {o:Oper} {a:Act} {w:World} {Q:Exit→Act→World→Prop} (hg:o.guard=none) (x:Operand) (ho:o.op= .call { callee:= .builtin .clear,args:=#[x],argTypes:=#[79]}) (b k c:Nat) (hx:a.eval x= .slice (some ⟨b,k,none⟩) 1 c) (ht:w.there b k 1) (h:wpList Tryz.prog ops Q rest (a.put o.dst (.tuple #[])) (w.setCell ⟨b,k,none⟩ (.pointer none))):wpList Tryz.prog ops Q (o::rest) a w:=wpList_plain hg fun _ hK=>by
 have h0:=ht 0 (by decide);have hr:=run_clearX w o.type b k c h0.1 h0.2;unfold Oper.wp execOp;simp only[ho,resolve,invoke,builtin,Sem.run_bind,Sem.run_pure,Result.andThen_ok,List.map_toArray,List.map_cons,List.map_nil,hx,hr];exact hK _ _ h
end
set_option maxHeartbeats 1000000 in
theorem un_delete (g cap B : Nat) (bs : List Nat) (i : Nat) (hi : i < bs.length) (w : World) (h : KOwns KX B (.slice (some ⟨g, 0, none⟩) bs.length cap) bs w) :
    Calls Tryz.prog 77 #[.slice (some ⟨g, 0, none⟩) bs.length cap, .int .i64 (i : Int), .int .i64 ((i : Int) + 1)] w fun e w' =>
      ∃ m, e = .returned (.slice (some ⟨g, 0, none⟩) m cap) ∧ KOwns KX B (.slice (some ⟨g, 0, none⟩) m cap) (bs.eraseIdx i) w' ∧ Fr [g] w w' := by
  obtain ⟨hA0, hge⟩ := KAt.of okX h
  obtain ⟨n, hn⟩ : ∃ n, n = bs.length := ⟨_, rfl⟩
  have HNN := qH hn
  have hcap := hA0.1
  rw [← hn] at hi hcap ⊢
  have HA := qH (show KAt KX g cap bs w.drew from hA0.same rfl)
  have HGE := qH hge
  have HII := qH (show i ≤ n ∧ n ≤ cap from ⟨by omega, hcap⟩)
  have HIJ := qH (show i + 1 ≤ n by omega)
  have HI1 := qH (show ((i : Int) + 1) = ((i + 1 : Nat) : Int) by omega)
  have hne : ((i : Int) == (i : Int) + 1) = false := by simp; omega
  have HTH := qH (And.intro (show (0 : Int) ≤ (i : Int) by omega) (And.intro (show (i : Int) ≤ (i : Int) + 1 by omega) (And.intro (show (i : Int) + 1 ≤ (n : Int) by omega) (show (n : Int) ≤ (cap : Int) by omega))))
  clear h hA0 hge hn hi hcap
  go_enter Tryz.func77, Tryz.ntmps77
  go_upto_region 5 with (refine wpThreeX rfl _ _ _ _ rfl _ _ _ _ _ _ rfl rfl rfl rfl HTH.out.1 HTH.out.2.1 HTH.out.2.2.1 HTH.out.2.2.2 (fun v => ?_))
  refine wp_region_held_drew (S := fun _ => True) (by kernel_rfl) trivial (fun hS => ?_)
  generalize hW : w.drew = W at *
  have HF0 := qH (show Fr [g] w W from Fr.of (by rw [← hW]; exact (Below.refl _ w).drew))
  clear hW
  refine sR 0 hS ?_
  refine sR 1 hS ?_
  refine sV 2 rfl (fun w hSw => (show (execOp _ _).run _ w = .ok (.value (.slice (some ⟨g, 0, none⟩) i cap)) w from execUptoX rfl (some ⟨g, 0, none⟩) n cap i rfl rfl HII.out.1 HII.out.2)) hS ?_
  refine sR 3 hS ?_
  refine sR 4 hS ?_
  refine sV 5 rfl (fun w hSw => (show (execOp _ _).run _ w = .ok (.value (fromV 1 (some ⟨g, 0, none⟩) n cap (i + 1))) w from execFromX rfl (some ⟨g, 0, none⟩) n cap (i + 1) rfl (by rw [HI1.out]; rfl) HIJ.out)) hS ?_
  refine sC 6 (fun K hK => ?_)
  refine appendX (.tmp 22) (.tmp 25) rfl g i cap n bs HNN.out HA.out HIJ.out rfl rfl (fun w1 hk1 hf1 => ?_)
  refine hK.out _ _ trivial (fun hS => ?_)
  clear hK K
  try simp only [Act.put, sA, sB, sE]
  refine sR 7 hS ?_
  refine sD ?_
  clear hS
  have HA1 := qH hk1
  have HF1 := qH hf1
  obtain ⟨m, hm⟩ : ∃ m, m = i + (n - (i + 1)) := ⟨_, rfl⟩
  have HM := qH (show n = m + 1 by have := HIJ.out; omega)
  have HML := qH (show m = (bs.eraseIdx i).length by rw [List.length_eraseIdx, if_pos (by have := HIJ.out; have := HNN.out; omega), ← HNN.out]; have := HIJ.out; omega)
  rw [← hm]
  clear hk1 hf1 HA hm
  have HT := qH (show w1.there g m 1 by
    have h := HA1.out.there (i := m) (by have := HM.out; have := HII.out.2; omega)
    intro j hj
    have := h j hj
    rwa [show m * KX.n + j = m + j by show m * 1 + j = _; omega] at this)
  go_wp2_with (first
    | (refine wpLastX rfl _ _ _ rfl g m cap m n rfl rfl rfl HM.out HII.out.2 ?_)
    | (refine wpClearX rfl _ rfl g m (cap - m) rfl HT.out ?_; refine Hid.out ?_))
  have HA2 := qH (HA1.out.far okX (off := m) (.pointer none) (by show (bs.eraseIdx i).length * 1 ≤ m; rw [← HML.out]; omega))
  have HF2 := qH ((HF0.out.tr HF1.out).tr (Fr.cell w1 ⟨g, m, none⟩ (.pointer none) (by simp)))
  clear HT HA1 HF1 HF0
  generalize w1.setCell ⟨g, m, none⟩ (.pointer none) = w2 at *
  refine qH ?_
  go_wp2_with fail
  go_ret
  exact ⟨m, rfl, by rw [HML.out]; exact KAt.owns okX HA2.out HGE.out, HF2.out⟩
theorem map_erase {α β:Type} (f:α→β):∀(l:List α) (i:Nat),(l.eraseIdx i).map f=(l.map f).eraseIdx i
 |[],_=>rfl
 |_::_,0=>rfl
 |a::l,i+1=>by show f a::(l.eraseIdx i).map f=f a::(l.map f).eraseIdx i;rw[map_erase f l i]
theorem mutsT_erase:∀(ts:List Tm) (i:Nat),(mutsT (ts.eraseIdx i)).Sublist (mutsT ts)
 |[],_=>List.Sublist.refl _
 |_::_,0=>List.sublist_append_right _ _
 |t::ts,i+1=>List.Sublist.append (List.Sublist.refl t.mut) (mutsT_erase ts i)
def EndRet (x : Um) (B : Nat) (id : Int) (w : World) (e : Ending) (w' : World) : Prop :=
  ∃ (v vo' : Value) (ms : List Mm) (ts' : List Tm), e = .returned v ∧ KOwns KM B v ms w' ∧ (∀ m ∈ ms, OwnM B m w') ∧ ms.map (·.u) = endB x.un id ∧ ts'.map (·.tx) = endO x.un id ∧
    UniA B ⟨x.p, x.room, x.vb, x.L, vo', ts', x.fail⟩ w' ∧ UFr x ⟨x.p, x.room, x.vb, x.L, vo', ts', x.fail⟩ w w'
set_option maxHeartbeats 2000000 in
set_option maxRecDepth 100000 in
theorem un_end (x:Um) (B:Nat) (id:Int) (hlen:x.ts.length≤100000) (w:World) (h:UniA B x w):Calls Tryz.prog 43 #[.pointer (some ⟨x.p,0,none⟩),.int .i64 id] w (EndRet x B id w):=by
 have HP:=qH (un_place x B id hlen w h);have HU:=qH h;rcases kidx_pl x.ts id with⟨e1,e2⟩|⟨i,t,e1,e2,ht,hid⟩
 ·rw[e1] at HP;have HPL:=qH (show ¬plO x.un.opn id<x.un.opn.length from e2);clear e1 e2 h;(go_enter Tryz.func43,Tryz.ntmps43);(go_wp2_with(go_at_call 76;refine HP.out.mono ?_;rintro e w1 ⟨rfl,hw1⟩;refine Hid.out ?_));have HU1:=qH (HU.out.below hw1);have HB1:=qH hw1;clear hw1 HP HU;refine qH ?_;(go_wp2_with fail);go_ret;refine⟨_,x.vo,[],x.ts,rfl,KOwns.nil _ _,fun m hm=>(by cases hm),?_,?_,HU1.out,UFr.of x HB1.out⟩
  ·unfold endB;rw[if_neg HPL.out];rfl
  ·unfold endO;rw[List.eraseIdx_of_length_le (Nat.le_of_not_lt HPL.out)];rfl
 ·rw[e1] at HP;have hlt:i<x.ts.length:=(List.getElem?_eq_some_iff.1 ht).1;rcases h.opn.kat okX with⟨_,h0⟩|⟨g,c,hv,hg,_⟩
  ·exfalso;have:x.ts=[]:=(by simpa using h0);rw[this] at hlt;exact absurd hlt (Nat.not_lt_zero _)
  have HV:=qH (show x.vo= .slice (some ⟨g,0,none⟩) x.ts.length c by rw[hv,List.length_map]);have HT:=qH ht;have HPL:=qH e2;have HG:=qH hg;obtain⟨n,hn⟩:∃n,n=x.ts.length:=⟨_,rfl⟩;have HN:=qH hn;rw[←hn] at hlen HV hlt;have hltI:(i:Int)<(n:Int):=(by omega);have hge:¬(i:Int)<0:=(by omega);have hge2:(0:Int)≤(i:Int):=(by omega);have hiB:(i:Int)≤100000:=(by omega);clear hn e1 e2 ht hid h hv hg;(go_enter Tryz.func43,Tryz.ntmps43);(go_wp2_with(go_at_call 76;refine HP.out.mono ?_;rintro e w1 ⟨rfl,hw1⟩;refine Hid.out ?_));have HU1:=qH (HU.out.below hw1);have HB1:=qH hw1;have HTA:=qH (HU1.out.txs t (List.mem_of_getElem? HT.out));obtain⟨pv,cv,hvv⟩:=HTA.out.own.form;have HVV:=qH hvv;have c2:w1.cell? ⟨x.p,2,none⟩=some (.slice (some ⟨g,0,none⟩) n c):=(by rw[←HV.out];exact HU1.out.vo_);have cv1:w1.cell? ⟨t.b,1,none⟩=some (.slice pv t.ms.length cv):=(by rw[←HVV.out];exact HTA.out.v_);have hrg:=(show KLies KX (.slice (some ⟨g,0,none⟩) n c) (x.ts.map (·.b)) w1 by rw[←HV.out];exact HU1.out.opn.lies okX).at' (i:=i) (a:=t.b) (by rw[List.getElem?_map,HT.out];rfl);obtain⟨c0,c1⟩:=ptrAt hrg;rw[Nat.zero_add] at c0 c1;have HD:=qH (un_delete g c B (x.ts.map (·.b)) i (by rw[List.length_map,←HN.out];exact hlt) w1 (by have h:=HU1.out.opn;rw[HV.out] at h;rw[List.length_map,←HN.out];exact h));rw[List.length_map,←HN.out] at HD;clear hw1 HP HU hrg hvv;refine qH ?_;(go_wp2_with(go_at_call 77;refine HD.out.mono ?_;rintro e w2 ⟨m,rfl,ho2,hf2⟩;refine Hid.out ?_));have HF2:=qH hf2;have HO2:=qH (show KOwns KX B (.slice (some ⟨g,0,none⟩) m c) ((x.ts.eraseIdx i).map (·.b)) w2 by rw[map_erase];exact ho2);have HM2:=qH (show Muts [g] w1 from fun k hk=>by simp only[List.mem_cons,List.not_mem_nil,or_false] at hk;subst hk;exact⟨_,by decide,HU1.out.opn.typ (by rw[HV.out];rfl)⟩);have HX2:=qH (show Blk x.p (uca x) 81 w2 from HF2.out.blk HU1.out.box fun hm=>by simp only[List.mem_cons,List.not_mem_nil,or_false] at hm;exact HU1.out.notVo (by rw[HV.out,hm];rfl));have HL2:=qH (HU1.out.base.fr HF2.out HM2.out);have HT2:=qH (show ∀t∈x.ts,TxA B t w2 from fun t ht=>(HU1.out.txs t ht).fr HF2.out HM2.out fun k hk hm=>by simp only[List.mem_cons,List.not_mem_nil,or_false] at hm;subst hm;exact HU1.out.voTx (by rw[HV.out];rfl) (mem_mutsT.2 ⟨t,ht,hk⟩));clear ho2 hf2 HD c0 c1 c2 cv1;have HTH:=qH (show w2.there x.p 2 1 from HX2.out.there (by show 3≤4;decide));have HBX:=qH (HX2.out.one (k:=2) (.slice (some ⟨g,0,none⟩) m c));have HFW:=qH (Fr.cell w2 ⟨x.p,2,none⟩ (.slice (some ⟨g,0,none⟩) m c) (M:=[x.p]) (by simp));refine qH ?_;(go_wp2_with(refine storeCell rfl 79 _ _ rfl x.p 2 (.slice (some ⟨g,0,none⟩) m c) rfl rfl rfl HTH.out infoPs ?_;refine Hid.out ?_));have HX3:=qH (show UniA B ⟨x.p,x.room,x.vb,x.L,.slice (some ⟨g,0,none⟩) m c,x.ts.eraseIdx i,x.fail⟩ (w2.setCell ⟨x.p,2,none⟩ (.slice (some ⟨g,0,none⟩) m c)) from UniA.wrote (p:=x.p) ⟨HX2.out.typ,HU1.out.ge⟩ rfl HBX.out HFW.out HL2.out HO2.out (fun t ht=>HT2.out t (List.mem_of_mem_eraseIdx ht)) ((mutsT_erase x.ts i).nodup HU1.out.nod));have HUF:=qH (show UFr x ⟨x.p,x.room,x.vb,x.L,.slice (some ⟨g,0,none⟩) m c,x.ts.eraseIdx i,x.fail⟩ w (w2.setCell ⟨x.p,2,none⟩ (.slice (some ⟨g,0,none⟩) m c)) from⟨(Fr.of HB1.out).tr ((HF2.out.mono fun k hk=> .inl (by simp only[List.mem_cons,List.not_mem_nil,or_false] at hk;subst hk;simp only[Um.muts,List.mem_cons,List.mem_append,mem_ownL];exact .inr (.inl (by rw[HV.out];rfl)))).tr (HFW.out.mono fun k hk=> .inl (by simp only[List.mem_cons,List.not_mem_nil,or_false] at hk;subst hk;simp[Um.muts]))),fun k hk=> .inl (by simp only[Um.muts,List.mem_cons,List.mem_append,mem_ownL] at hk ⊢;rcases hk with rfl|hk|hk;(·exact .inl rfl);(·exact .inr (.inl (by rw[HV.out];exact hk)));·exact .inr (.inr ((mutsT_erase x.ts i).subset hk)))⟩);have HTA2:=qH (HT2.out t (List.mem_of_getElem? HT.out));have HMW:=qH (show Muts [x.p] w2 from fun k hk=>by simp only[List.mem_cons,List.not_mem_nil,or_false] at hk;subst hk;exact⟨_,by decide,HX2.out.typ⟩);have HV3:=qH (show KOwns KM B (.slice pv t.ms.length cv) t.ms (w2.setCell ⟨x.p,2,none⟩ (.slice (some ⟨g,0,none⟩) m c)) by rw[←HVV.out];exact HFW.out.owns HTA2.out.own fun k hk hm=>by simp only[List.mem_cons,List.not_mem_nil,or_false] at hm;subst hm;exact Typ.ne (HTA2.out.own.typ hk) HX2.out.typ (by decide) rfl);have HA3:=qH (show ∀m'∈t.ms,OwnM B m' (w2.setCell ⟨x.p,2,none⟩ (.slice (some ⟨g,0,none⟩) m c)) from fun m' hm'=>(HTA2.out.acts m' hm').fr HFW.out HMW.out);clear HTH HBX HFW HO2 HF2 HM2 HX2 HL2 HT2 HTA HTA2 HMW HU1;generalize w2.setCell ⟨x.p,2,none⟩ (.slice (some ⟨g,0,none⟩) m c)=w3 at*;refine qH ?_;(go_wp2_with fail);go_ret;refine⟨_,_,t.ms,x.ts.eraseIdx i,rfl,HV3.out,HA3.out,?_,?_,HX3.out,HUF.out⟩
  ·have hpl:plO x.un.opn id=i:=HPL.out;have hln:x.un.opn.length=x.ts.length:=List.length_map ..;unfold endB;rw[hpl,hln,if_pos (by rw[←HN.out];exact hlt)];unfold txO;rw[show x.un.opn[i]? =some t.tx by show(x.ts.map (·.tx))[i]? =_;rw[List.getElem?_map,HT.out];rfl];rfl
  ·have hpl:plO x.un.opn id=i:=HPL.out;unfold endO;rw[hpl,map_erase];rfl
end Go.Proofs.YtomnpfbebimpkaaGreatDoor
