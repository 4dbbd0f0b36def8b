/- Several of my texts as one: RowGen, ActVal, ActSnd, ActFun, ActRun, ActRef, ActRrun, ActSam. -/
import Derived.Test.YtomnpfbebimpkaaGreatDoorPackCube
import Derived.Deep.AppendLies
import Derived.Great.BuildSlice
import Derived.Laws.OwnMore
import Derived.Maps.AppendAt
import Derived.Laws.AppendOwnNone
import Derived.Shelf.Abstract
import Derived.Laws.StructEq
import Derived.Deep.DeepCutAuto
import Derived.Test.YtomnpfbebimpkaaGreatDoorSq
/-
  Slices of elements of any kind: a kind has a type, a slice's type, a number of cells. Slices that lie in memory, slices of one's own, append.
-/
namespace Go.Proofs.YtomnpfbebimpkaaGreatDoor
set_option maxRecDepth 20000
open Go.RowKit
structure Kd (α : Type) where
  T : TypeId
  S : TypeId
  n : Nat
  room : Nat
  cells : α → List Value
section
variable {α : Type}
structure Kd.Ok (K : Kd α) : Prop where
  pos : 0 < K.n
  len : ∀ a, (K.cells a).length = K.n
  one : ∀ a u, u ∈ K.cells a → u.oneCell' = true
  under : Tryz.prog.underlying K.S = some (.slice K.T)
  info : ∃ i z, Tryz.prog.info? K.T = some i ∧ i.zero = some z ∧ i.size = K.n ∧ i.bytes = K.room ∧ z.cells.size = K.n
  small : K.room ≤ 1000
  room1 : 0 < K.room
def Kd.flat (K : Kd α) (l : List α) : List Value := l.flatMap K.cells
def KOwns (K : Kd α) (base : Nat) (v : Value) (l : List α) (W : World) : Prop := W.ownsRow base K.T K.n v l.length (K.flat l)
def KLies (K : Kd α) (v : Value) (l : List α) (W : World) : Prop :=
  (v = .slice none 0 0 ∧ l = []) ∨ ∃ (ad : Addr) (cap : Nat), v = .slice (some ad) l.length cap ∧ l.length ≤ cap ∧ ∀ i a, l[i]? = some a → ad.spot = none ∧ W.rangeAt ad.block (ad.off + i * K.n) (K.cells a)
variable {K : Kd α} {base : Nat} {v : Value} {l k : List α} {W W' : World} {p : Option Addr} {n cap : Nat}
theorem Kd.Ok.flat_len (ok:K.Ok):∀l:List α,(K.flat l).length=l.length*K.n
 |[]=>by simp[Kd.flat]
 |a::l=>by have:=ok.flat_len l;unfold Kd.flat at this ⊢;rw[List.flatMap_cons,List.length_append,this,ok.len,List.length_cons,Nat.succ_mul];omega
theorem Kd.flat_append (K:Kd α) (l k:List α):K.flat (l++k)=K.flat l++K.flat k:=by simp[Kd.flat]
theorem Kd.Ok.flat_one (ok:K.Ok) (l:List α):∀u∈K.flat l,u.oneCell'=true:=by
 intro u hu;unfold Kd.flat at hu;obtain⟨a,_,h⟩:=List.mem_flatMap.1 hu;exact ok.one a u h
theorem Kd.Ok.flat_get (ok:K.Ok):∀(l:List α) (i:Nat) (a:α) (j:Nat) (u:Value),l[i]? =some a→(K.cells a)[j]? =some u→(K.flat l)[i*K.n+j]? =some u
 |[],i,a,j,u,h,_=>by simp at h
 |b::l,0,a,j,u,h,hu=>by simp only[List.getElem?_cons_zero,Option.some.injEq] at h;subst h;show(K.cells b++K.flat l)[0*K.n+j]? =some u;have hj:=(List.getElem?_eq_some_iff.1 hu).1;rw[Nat.zero_mul,Nat.zero_add,List.getElem?_append_left hj];exact hu
 |b::l,i+1,a,j,u,h,hu=>by have ih:=ok.flat_get l i a j u (by simpa using h) hu;show(K.cells b++K.flat l)[(i+1)*K.n+j]? =some u;rw[List.getElem?_append_right (by rw[ok.len,Nat.succ_mul];omega),ok.len,Nat.succ_mul,show i*K.n+K.n+j - K.n=i*K.n+j by omega];exact ih
theorem Kd.Ok.flat_nth (ok:K.Ok):∀(l:List α) (j:Nat) (u:Value),(K.flat l)[j]? =some u→∃i a m,l[i]? =some a∧(K.cells a)[m]? =some u∧j=i*K.n+m
 |[],j,u,h=>by simp[Kd.flat] at h
 |b::l,j,u,h=>by
  have e:K.flat (b::l)=K.cells b++K.flat l:=rfl;rw[e] at h;by_cases hj:j<K.n
  ·rw[List.getElem?_append_left (by rw[ok.len];exact hj)] at h;exact⟨0,b,j,rfl,h,by omega⟩
  ·rw[List.getElem?_append_right (by rw[ok.len];omega),ok.len] at h;obtain⟨i,a,m,h1,h2,h3⟩:=ok.flat_nth l (j - K.n) u h;exact⟨i+1,a,m,by simpa using h1,h2,by rw[Nat.succ_mul];omega⟩
theorem KOwns.nil (base:Nat) (W:World):KOwns K base (.slice none 0 0) [] W:=World.ownsRow_nil W base _ _
theorem KOwns.below (h:KOwns K base v l W) (hb:Below W.heap.size W W'):KOwns K base v l W':=by
 rcases h with⟨h1,h2|⟨g,cap,cur,e1,e2,e3,e4⟩⟩
 ·exact⟨h1,.inl h2⟩
 ·exact⟨h1,.inr ⟨g,cap,cur,e1,e2,(hb.block g (Array.getElem?_eq_some_iff.1 e3).1).trans e3,e4⟩⟩
theorem KOwns.other (h:KOwns K base v l W) (hb:∀g,base≤g→g<W.heap.size→W'.heap[g]? =W.heap[g]?):KOwns K base v l W':=by
 rcases h with⟨h1,h2|⟨g,cap,cur,e1,e2,e3,e4⟩⟩
 ·exact⟨h1,.inl h2⟩
 ·exact⟨h1,.inr ⟨g,cap,cur,e1,e2,(hb g e2 (Array.getElem?_eq_some_iff.1 e3).1).trans e3,e4⟩⟩
theorem KOwns.mono {base':Nat} (h:KOwns K base v l W) (hb:base'≤base):KOwns K base' v l W:=by
 rcases h with⟨h1,h2|⟨g,cap,cur,e1,e2,e3⟩⟩
 ·exact⟨h1,.inl h2⟩
 ·exact⟨h1,.inr ⟨g,cap,cur,e1,by omega,e3⟩⟩
theorem KOwns.form (h:KOwns K base v l W):∃p cap,v= .slice p l.length cap:=by
 rcases h with⟨_,⟨rfl,h2⟩|⟨g,cap,cur,e1,_⟩⟩
 ·exact⟨none,0,by rw[h2]⟩
 ·exact⟨_,cap,e1⟩
theorem KOwns.ge (h:KOwns K base v l W):∀k,v.ownBlock=some k→base≤k:=by
 rcases h with⟨_,⟨rfl,_⟩|⟨g,cap,cur,rfl,e2,_⟩⟩
 ·intro k hk;cases hk
 ·intro k hk;injection hk with hk;subst hk;exact e2
theorem KOwns.lies (h:KOwns K base v l W) (ok:K.Ok):KLies K v l W:=by
 rcases h.2 with⟨h1,h2⟩|⟨g,cap,cur,h1,_,_,h4,_⟩
 ·exact .inl ⟨h1,List.length_eq_zero_iff.1 h2⟩
 ·subst h1;refine .inr ⟨⟨g,0,none⟩,cap,rfl,h4,fun i a ha=>⟨rfl,fun j u hu=>?_⟩⟩;have:=World.ownsRow.cells (g:=g) h rfl (i*K.n+j) u (ok.flat_get l i a j u ha hu);rw[Addr.add_mid] at this;rw[show(⟨g,0,none⟩:Addr).off+i*K.n+j=0+(i*K.n+j) by show 0+i*K.n+j=_;omega];exact this
theorem Kd.Ok.rangeLt (ok:K.Ok) {b o:Nat} {a:α} (h:W.rangeAt b o (K.cells a)):b<W.heap.size:=by
 have hp:0<(K.cells a).length:=(by rw[ok.len];exact ok.pos);exact World.block_lt_of_cell? _ _ (h 0 _ (List.getElem?_eq_getElem hp))
theorem KLies.below (h:KLies K v l W) (ok:K.Ok) (hb:Below W.heap.size W W'):KLies K v l W':=by
 rcases h with h|⟨ad,cap,h1,h2,h3⟩
 ·exact .inl h
 ·refine .inr ⟨ad,cap,h1,h2,fun i a ha=>⟨(h3 i a ha).1,fun j u hu=>?_⟩⟩;have h4:=(h3 i a ha).2;exact(hb.cell (p:=⟨ad.block,ad.off+i*K.n+j,none⟩) (ok.rangeLt h4)).trans (h4 j u hu)
theorem KLies.form (h:KLies K v l W):∃p cap,v= .slice p l.length cap:=by
 rcases h with⟨h1,h2⟩|⟨ad,cap,h1,_⟩
 ·exact⟨none,0,by rw[h1,h2];rfl⟩
 ·exact⟨_,cap,h1⟩
theorem KLies.at (h:KLies K (.slice p n cap) l W) {i:Nat} {a:α} (hi:l[i]? =some a):∃b o,p=some ⟨b,o,none⟩∧W.rangeAt b (o+i*K.n) (K.cells a):=by
 rcases h with⟨_,h2⟩|⟨⟨b,o,sp⟩,cap,h1,_,h3⟩
 ·rw[h2] at hi;simp at hi
 ·injection h1 with h1 _ _;obtain⟨e,h4⟩:=h3 i a hi;have e':sp=none:=e;subst e';exact⟨b,o,h1,h4⟩
theorem KLies.at' {b o:Nat} (h:KLies K (.slice (some ⟨b,o,none⟩) n cap) l W) {i:Nat} {a:α} (hi:l[i]? =some a):W.rangeAt b (o+i*K.n) (K.cells a):=by
 obtain⟨b',o',e,h⟩:=h.at hi;injection e with e;injection e with e1 e2;rw[e1,e2];exact h
theorem KLies.news {ad:Addr} (h:KLies K (.slice (some ad) n cap) l W) (ok:K.Ok):∀j u,(K.flat l)[j]? =some u→W.cell? (ad.add j)=some u:=by
 intro j u hu;obtain⟨i,a,m,h1,h2,rfl⟩:=ok.flat_nth l j u hu;obtain⟨b,o,e,h3⟩:=h.at h1;injection e with e;subst e;have:=h3 m u h2;rw[Addr.add_mid,show o+(i*K.n+m)=o+i*K.n+m by omega];exact this
theorem kappendB (K:Kd α) (ok:K.Ok) {ops:Array Oper} {rest:List Oper} {o:Oper} {a:Act} {w:World} {Q:Exit→Act→World→Prop} (hgd:o.guard=none) (s x:Operand) (ho:o.op= .call { callee:= .builtin .append,args:=#[s,x],argTypes:=#[K.S,K.S]}) (base:Nat) (v:Value) (l k:List α) (hs:a.eval s=v) (hown:KOwns K base v l w) (u:Value) (hx:a.eval x=u) (hk:KLies K u k w) (hbase:base≤w.heap.size) (hlen:(l.length+k.length)*K.room≤140737488355328) (h:∀v' w',KOwns K base v' (l++k) w'→w.grownBy w' v.ownBlock→wpList Tryz.prog ops Q rest (a.put o.dst v') w'):wpList Tryz.prog ops Q (o::rest) a w:=by
 obtain⟨i,z,hi,hz,hsz,hby,hc⟩:=ok.info;have hnm:l.length+k.length≤140737488355328:=Nat.le_trans (by have:=Nat.mul_le_mul_left (l.length+k.length) ok.room1;omega) hlen;rcases hk with⟨rfl,rfl⟩|⟨ad,cap,rfl,hcap,hr⟩
 ·refine wpList_append_own_none hgd s x K.S ho base K.T i K.n ok.under hi v l.length (K.flat l) hs hown hx (h v w ?_ ⟨rfl,rfl,rfl,Nat.le_refl _,fun _ _ _=>rfl⟩);rw[List.append_nil];exact hown
 ·refine wpList_append_own_at w hgd s x K.S ho base K.T i z K.n K.room ok.under hi hz hsz hby hc ok.pos v l.length (K.flat l) hs hown ad k.length cap (K.flat k) hx (ok.flat_len k) (KLies.news (.inr ⟨ad,cap,rfl,hcap,hr⟩) ok) (ok.flat_one k) (by unfold maxLen;omega) hlen hbase fun v' w' h1 h2 _ _=>h v' w' ?_ h2;unfold KOwns;rw[List.length_append,K.flat_append];exact h1
theorem Kd.Ok.light (ok:K.Ok) {n:Nat} (h:n≤1000000):n*K.room≤140737488355328:=Nat.le_trans (Nat.mul_le_mul h ok.small) (by decide)
theorem kappend (K:Kd α) (ok:K.Ok) {ops:Array Oper} {rest:List Oper} {o:Oper} {a:Act} {w:World} {Q:Exit→Act→World→Prop} (hgd:o.guard=none) (s x:Operand) (ho:o.op= .call { callee:= .builtin .append,args:=#[s,x],argTypes:=#[K.S,K.S]}) (base:Nat) (v:Value) (l k:List α) (hs:a.eval s=v) (hown:KOwns K base v l w) (u:Value) (hx:a.eval x=u) (hk:KLies K u k w) (hbase:base≤w.heap.size) (hlen:l.length+k.length≤1000000) (h:∀v' w',KOwns K base v' (l++k) w'→w.grownBy w' v.ownBlock→wpList Tryz.prog ops Q rest (a.put o.dst v') w'):wpList Tryz.prog ops Q (o::rest) a w:=kappendB K ok hgd s x ho base v l k hs hown u hx hk hbase (ok.light hlen) h
theorem kbuildNone (K:Kd α) (ok:K.Ok) {ops:Array Oper} {rest:List Oper} {o:Oper} {a:Act} {w:World} {Q:Exit→Act→World→Prop} (hg:o.guard=none) (ho:o.op= .buildSlice K.S 0 #[]) (h:wpList Tryz.prog ops Q rest (a.put o.dst (.slice (some ⟨w.heap.size,0,none⟩) 0 0)) (w.alloc (.cells #[] K.T))):wpList Tryz.prog ops Q (o::rest) a w:=by
 obtain⟨i,z,hi,hz,hs,hb,hc⟩:=ok.info;refine wpList_plain hg fun Kt hK=>?_;have hr:∀parts:Array (Nat×Value),parts.toList=[]→(Instr.buildSlice K.S 0 parts).run Tryz.prog w= .ok (.slice (some ⟨w.heap.size,0,none⟩) 0 0) (w.alloc (.cells #[] K.T)):=fun parts hp=>(by simp[Instr.buildSlice,run_underlying ok.under,sizeOf,typeInfo,hi,hp,Instr.fill,newRow];congr 2;exact Array.eq_empty_of_size_eq_zero (by simp));unfold Oper.wp execOp;simp only[ho,Sem.run_bind];rw[hr _ (by simp)];exact hK _ _ h
theorem KOwns.built (w:World) (base:Nat) (hb:base≤w.heap.size):KOwns K base (.slice (some ⟨w.heap.size,0,none⟩) 0 0) [] (w.alloc (.cells #[] K.T)):=World.ownsRow_made w #[] 0 hb (by unfold maxLen;decide) (by simp)
theorem Blk.klies {b:Nat} {cs:Array Value} {T:TypeId} (h:Blk b cs T W) (ok:K.Ok) (he:cs.toList=K.flat l):KLies K (.slice (some ⟨b,0,none⟩) l.length l.length) l W:=by
 refine .inr ⟨_,_,rfl,Nat.le_refl _,fun i a ha=>⟨rfl,fun j u hu=>?_⟩⟩;have:=ok.flat_get l i a j u ha hu;show W.cell? ⟨b,0+i*K.n+j,none⟩=some u;rw[Nat.zero_add,cell_of_row _ b _ cs _ _ h,←Array.getElem?_toList,he];exact this
theorem kbelowOwn {w:World} (hb:Below w.heap.size w W) (ho:KOwns K base v l W) (hbase:w.heap.size≤base) (hg:W.grownBy W' v.ownBlock):Below w.heap.size w W':=hb.grown hg hb.size fun k e=>Nat.le_trans hbase (ho.ge k e)
theorem Blk.grown {b:Nat} {cs:Array Value} {t:TypeId} (h:Blk b cs t W) (ho:KOwns K base v l W) (hbase:b<base) (hg:W.grownBy W' v.ownBlock):Blk b cs t W':=(hg.block _ h.lt (fun e=>by have:=ho.ge _ e.symm;omega)).trans h
end
def KPred {α : Type} (V : α → Value) (Wf : α → Prop) (g : Nat) (cb : Array Value) (q : α → Bool) (w : World) : Prop :=
  ∀ W, Below w.heap.size w W → ∀ c, Wf c → Calls Tryz.prog g (#[V c] ++ cb) W fun e w' => e = .returned (.bool (q c)) ∧ Below W.heap.size W w'
def kidx {α : Type} (q : α → Bool) (l : List α) : Int := match l.findIdx? q with
  | some i => i
  | none => -1
theorem kidx_hit {α:Type} {q:α→Bool} {l:List α} {i:Nat} {a:α} (hi:l[i]? =some a) (h1:q a=true) (h2:∀j b,j<i→l[j]? =some b→q b=false):kidx q l=i:=by
 obtain⟨hlt,e⟩:=List.getElem?_eq_some_iff.1 hi;have:l.findIdx? q=some i:=(by rw[List.findIdx?_eq_some_iff_getElem];refine⟨hlt,by rw[e];exact h1,fun j hj=>?_⟩;have hj':j<l.length:=(by omega);simpa using h2 j _ hj (List.getElem?_eq_getElem hj'));unfold kidx;rw[this]
theorem kidx_none {α:Type} {q:α→Bool} {l:List α} (h2:∀(j:Nat) b,l[j]? =some b→q b=false):kidx q l= -1:=by
 have:l.findIdx? q=none:=(by rw[List.findIdx?_eq_none_iff];intro x hx;obtain⟨j,hj,rfl⟩:=List.mem_iff_getElem.1 hx;exact h2 j _ (List.getElem?_eq_getElem hj));unfold kidx;rw[this]
theorem kidx_any {α:Type} (q:α→Bool) (l:List α):decide (0≤kidx q l)=l.any q:=by
 unfold kidx;cases h:l.findIdx? q with
 |none=>rw[List.findIdx?_eq_none_iff] at h;have:l.any q=false:=(by rw[List.any_eq_false];intro x hx;simp[h x hx]);rw[this];rfl
 |some i=>rw[List.findIdx?_eq_some_iff_getElem] at h;obtain⟨hi,h1,_⟩:=h;have:l.any q=true:=List.any_eq_true.2 ⟨_,List.getElem_mem hi,h1⟩;rw[this];simp
theorem retI {k:IntKind} {a b:Int} (h:a=b):Ending.returned (.int k a)= .returned (.int k b):=by rw[h]
theorem Env.predK {w W:World} (h:Env w W):∀W',Below W.heap.size W W'→Tab W'∧0<W'.heap.size:=fun _ hb=>⟨(h.below hb).tab,(h.below hb).lt⟩
structure Ac where
  k : Int
  p : Int
  f : Int
  v : Int
structure Sn where
  p : Int
  h : Nat → Int
def acl (a : Ac) : List Value := [.int .i64 a.k, .int .i64 a.p, .int .i64 a.f, .int .u64 a.v]
def aca (a : Ac) : Array Value := #[.int .i64 a.k, .int .i64 a.p, .int .i64 a.f, .int .u64 a.v]
def snl (s : Sn) : List Value := .int .i64 s.p :: hl s.h
def sna (s : Sn) : Array Value := #[.int .i64 s.p, .int .u64 (s.h 0), .int .u64 (s.h 1), .int .u64 (s.h 2), .int .u64 (s.h 3), .int .u64 (s.h 4), .int .u64 (s.h 5), .int .u64 (s.h 6), .int .u64 (s.h 7), .int .u64 (s.h 8), .int .u64 (s.h 9), .int .u64 (s.h 10), .int .u64 (s.h 11)]
abbrev KA : Kd Ac := ⟨83, 38, 4, 32, acl⟩
abbrev KS : Kd Sn := ⟨118, 56, 13, 104, snl⟩
theorem infoOf {T:TypeId} {n b:Nat} (h1:(Tryz.prog.info? T).map (·.size)=some n) (h2:(Tryz.prog.info? T).map (·.bytes)=some b) (h3:((Tryz.prog.info? T).bind (·.zero)).map (·.cells.size)=some n):∃i z,Tryz.prog.info? T=some i∧i.zero=some z∧i.size=n∧i.bytes=b∧z.cells.size=n:=by
 cases hi:Tryz.prog.info? T with
 |none=>rw[hi] at h1;cases h1
 |some i=>rw[hi] at h1 h2 h3;simp only[Option.map_some,Option.some.injEq,Option.bind_some,Option.map_eq_some_iff] at h1 h2 h3;obtain⟨z,hz,hc⟩:=h3;exact⟨i,z,rfl,hz,h1,h2,hc⟩
theorem okA:KA.Ok where
 pos:=by decide
 len:=fun _=>rfl
 one:=fun a u hu=>by simp only[acl,List.mem_cons,List.not_mem_nil,or_false] at hu;rcases hu with rfl|rfl|rfl|rfl<;>rfl
 under:=Tryz.underlying38
 info:=infoOf (by kernel_rfl) (by kernel_rfl) (by kernel_rfl)
 small:=by decide
 room1:=by decide
theorem okS:KS.Ok where
 pos:=by decide
 len:=fun _=>rfl
 one:=fun a u hu=>by simp only[snl,hl,List.mem_cons,List.not_mem_nil,or_false] at hu;rcases hu with rfl|rfl|rfl|rfl|rfl|rfl|rfl|rfl|rfl|rfl|rfl|rfl|rfl<;>rfl
 under:=Tryz.underlying56
 info:=infoOf (by kernel_rfl) (by kernel_rfl) (by kernel_rfl)
 small:=by decide
 room1:=by decide
def WfA (a : Ac) : Prop := 0 ≤ a.v ∧ a.v < 18446744073709551616
def WfAL (l : List Ac) : Prop := ∀ a ∈ l, WfA a
theorem WfAL.at {l:List Ac} (h:WfAL l) {i:Nat} {a:Ac} (hi:l[i]? =some a):WfA a:=h _ (List.mem_of_getElem? hi)
def sndA (a : Ac) : Bool :=
  if a.k = 1 then decide (1 ≤ a.p) && decide (a.p ≤ 16) && (a.f == 0) && (a.v == 0)
  else if a.k = 2 then (setE a.f a.v == 0) && (a.p == 0)
  else if a.k = 3 then (a.p == 0) && (a.f == 0) && (a.v == 0)
  else false
def sndAL (l : List Ac) : Bool := decide (l.length ≤ 8) && l.all sndA
def aEq (a b : Ac) : Bool := a.k == b.k && a.p == b.p && a.f == b.f && a.v == b.v
theorem actFields:∃f g h i:Field,(Tryz.prog.fieldsOf 83).toList=[f,g,h,i]∧f.name≠ "_" ∧f.type=3∧f.offset=0∧g.name≠ "_" ∧g.type=3∧g.offset=1∧h.name≠ "_" ∧h.type=3∧h.offset=2∧i.name≠ "_" ∧i.type=33∧i.offset=3:=⟨_,_,_,_,rfl,by decide,rfl,rfl,by decide,rfl,rfl,by decide,rfl,rfl,by decide,rfl,rfl⟩
theorem partA0 (a:Ac) (w:World):(part 3 (aca a) 0).run Tryz.prog w= .ok (.int .i64 a.k) w:=by kernel_rfl
theorem partA1 (a:Ac) (w:World):(part 3 (aca a) 1).run Tryz.prog w= .ok (.int .i64 a.p) w:=by kernel_rfl
theorem partA2 (a:Ac) (w:World):(part 3 (aca a) 2).run Tryz.prog w= .ok (.int .i64 a.f) w:=by kernel_rfl
theorem partA3 (a:Ac) (w:World):(part 33 (aca a) 3).run Tryz.prog w= .ok (.int .u64 a.v) w:=by kernel_rfl
theorem eql_act (a b:Ac) (w:World):(Op.equalIn 10000 83 (.agg (aca a)) (.agg (aca b))).run Tryz.prog w= .ok (aEq a b) w:=by
 obtain⟨f,g,h,i,hf,f1,f2,f3,g1,g2,g3,h1,h2,h3,i1,i2,i3⟩:=actFields;rw[run_equalIn_struct w 9999 83 (aca a) (aca b) (by kernel_rfl) (by kernel_rfl),hf];have hI:∀x y:Int,(Op.equalIn 9999 3 (.int .i64 x) (.int .i64 y)).run Tryz.prog w= .ok (x==y) w:=fun x y=>run_equalIn_int w 9998 3 .i64 .i64 x y Tryz.underlying3;have hU:∀x y:Int,(Op.equalIn 9999 33 (.int .u64 x) (.int .u64 y)).run Tryz.prog w= .ok (x==y) w:=fun x y=>run_equalIn_int w 9998 33 .u64 .u64 x y Tryz.underlying33;unfold aEq;simp only[Op.eqFields,f1,f2,f3,g1,g2,g3,h1,h2,h3,i1,i2,i3,ne_eq,not_false_eq_true,if_true,Sem.run_bind,partA0,Result.andThen_ok,hI];cases e1:a.k==b.k
 ·simp
 ·simp only[Bool.not_true,Bool.false_eq_true,if_false,Sem.run_bind,partA1,Result.andThen_ok,hI];cases e2:a.p==b.p
  ·simp
  ·simp only[Bool.not_true,Bool.false_eq_true,if_false,Sem.run_bind,partA2,Result.andThen_ok,hI];cases e3:a.f==b.f
   ·simp
   ·simp only[Bool.not_true,Bool.false_eq_true,if_false,Sem.run_bind,partA3,Result.andThen_ok,hU];cases e4:a.v==b.v<;>simp
theorem guardAct:Tryz.prog.eqGuardType Tryz.prog.depth 83=false:=by kernel_rfl
theorem aEq_iff (a b:Ac):aEq a b=true↔a=b:=by
 cases a;cases b;simp[aEq,and_assoc]
theorem aca_one (a:Ac):(aca a).all (·.oneCell')=true:=by simp[aca,Value.oneCell']
theorem cellA {W:World} {b:Nat} {a:Ac} {t:TypeId} (h:Blk b (aca a) t W):W.cell? ⟨b,0,none⟩=some (.int .i64 a.k)∧W.cell? ⟨b,1,none⟩=some (.int .i64 a.p)∧W.cell? ⟨b,2,none⟩=some (.int .i64 a.f)∧W.cell? ⟨b,3,none⟩=some (.int .u64 a.v):=⟨(cell_of_row W b 0 _ _ _ h).trans rfl,(cell_of_row W b 1 _ _ _ h).trans rfl,(cell_of_row W b 2 _ _ _ h).trans rfl,(cell_of_row W b 3 _ _ _ h).trans rfl⟩
theorem ne_true {a b:Int} (h:a≠b):(a != b)=true:=by simpa using h
theorem beq_false {a b:Int} (h:a≠b):(a==b)=false:=by simpa using h
set_option maxHeartbeats 400000 in
theorem unsound_one (p f v:Int) (w:World):Calls Tryz.prog 116 #[.agg (aca ⟨1,p,f,v⟩)] w fun e w'=>e= .returned (.bool (!sndA ⟨1,p,f,v⟩))∧Below w.heap.size w w':=by
 obtain⟨k0,k1,k2,k3⟩:=cellA (Blk.new w (aca ⟨1,p,f,v⟩) 83);have HB:=qH (below1 w (.cells (aca ⟨1,p,f,v⟩) 83));by_cases h1:p<1
 ·have hs:(!sndA ⟨1,p,f,v⟩)=true:=(by simp[sndA];omega);rw[hs];clear hs;(go_enter Tryz.func116,Tryz.ntmps116);go_wp2;go_ret;exact⟨rfl,HB.out⟩
 ·by_cases h2:16<p
  ·have hs:(!sndA ⟨1,p,f,v⟩)=true:=(by simp[sndA];omega);rw[hs];clear hs;(go_enter Tryz.func116,Tryz.ntmps116);go_wp2;go_ret;exact⟨rfl,HB.out⟩
  ·by_cases h3:f=0
   ·subst h3;have hs:(!sndA ⟨1,p,0,v⟩)=(v != 0):=(by simp[sndA,show 1≤p by omega,show p≤16 by omega,bne]);rw[hs];clear hs;(go_enter Tryz.func116,Tryz.ntmps116);go_wp2;go_ret;exact⟨rfl,HB.out⟩
   ·have hs:(!sndA ⟨1,p,f,v⟩)=true:=(by simp[sndA,h3]);rw[hs];have h3':=ne_true h3;clear hs h3;(go_enter Tryz.func116,Tryz.ntmps116);go_wp2;go_ret;exact⟨rfl,HB.out⟩
set_option maxHeartbeats 400000 in
theorem unsound_two (p f v:Int) (v0:0≤v) (w:World) (ht:Tab w) (hz:0<w.heap.size):Calls Tryz.prog 116 #[.agg (aca ⟨2,p,f,v⟩)] w fun e w'=>e= .returned (.bool (!sndA ⟨2,p,f,v⟩))∧Below w.heap.size w w':=by
 have R0:=qH (Blk.new w (aca ⟨2,p,f,v⟩) 83);have HE:=qH ((Env.start ht hz).alloc (.cells (aca ⟨2,p,f,v⟩) 83));obtain⟨k0,k1,k2,k3⟩:=cellA R0.out;have HS:=qH (set_any zh f v _ v0 HE.out.tab HE.out.lt);have hs:(!sndA ⟨2,p,f,v⟩)=((setE f v != 0)||(p != 0)):=(by simp only[sndA];cases h:setE f v==0<;>cases h':p==0<;>simp[bne,h,h']);rw[hs];clear hs ht v0;generalize setV zh f v=g at*;generalize setE f v=e0 at*;by_cases h1:e0=0
 ·subst h1;(go_enter Tryz.func116,Tryz.ntmps116);(go_upto_region 6 with(first|(go_at_call 80;refine HS.out.mono ?_;rintro e w1 ⟨rfl,hw1⟩)|(refine wpList_store_row rfl 35 _ _ rfl w1.heap.size (hc g) rfl rfl 35 _ (heap_alloc_new _ _) (by kernel_rfl) rfl (hc_one _) ?_;rw[World.setRow_alloc_new])));have R1:=qH ((R0.out.below hw1).old (.cells (hc g) 35));have HB:=qH ((HE.out.below hw1).alloc (.cells (hc g) 35)).kept;clear hw1 k0 k1 k2 k3 HS HE;obtain⟨k0,k1,k2,k3⟩:=cellA R1.out;go_wp2;go_ret;exact⟨rfl,HB.out⟩
 ·have h1':=ne_true h1;clear h1;(go_enter Tryz.func116,Tryz.ntmps116);(go_upto_region 6 with(first|(go_at_call 80;refine HS.out.mono ?_;rintro e w1 ⟨rfl,hw1⟩)|(refine wpList_store_row rfl 35 _ _ rfl w1.heap.size (hc g) rfl rfl 35 _ (heap_alloc_new _ _) (by kernel_rfl) rfl (hc_one _) ?_;rw[World.setRow_alloc_new])));have HB:=qH ((HE.out.below hw1).alloc (.cells (hc g) 35)).kept;clear hw1 k0 k1 k2 k3 HS HE;go_wp2;go_ret;exact⟨ret_bool (by rw[h1'];rfl),HB.out⟩
set_option maxHeartbeats 400000 in
theorem unsound_three (p f v:Int) (w:World):Calls Tryz.prog 116 #[.agg (aca ⟨3,p,f,v⟩)] w fun e w'=>e= .returned (.bool (!sndA ⟨3,p,f,v⟩))∧Below w.heap.size w w':=by
 have R0:=qH (Blk.new w (aca ⟨3,p,f,v⟩) 83);obtain⟨k0,_,_,_⟩:=cellA R0.out;have HB:=qH (below1 w (.cells (aca ⟨3,p,f,v⟩) 83));have hs:(!sndA ⟨3,p,f,v⟩)= !aEq ⟨3,p,f,v⟩ ⟨3,0,0,0⟩:=(by simp[sndA,aEq]);rw[hs];clear hs;have heq:∀w,(Op.equalIn 10000 83 (.agg (aca ⟨3,p,f,v⟩)) (.agg #[.int .i64 3,.int .i64 0,.int .i64 0,.int .u64 0])).run Tryz.prog w= .ok (aEq ⟨3,p,f,v⟩ ⟨3,0,0,0⟩) w:=fun w=>eql_act ⟨3,p,f,v⟩ ⟨3,0,0,0⟩ w;have hgd:=guardAct;generalize aEq ⟨3,p,f,v⟩ ⟨3,0,0,0⟩=y at*;(go_enter Tryz.func116,Tryz.ntmps116);(go_wp2_with(refine wpList_load_row rfl 83 _ rfl w.heap.size rfl 83 (aca ⟨3,p,f,v⟩) (0,0) _ R0.out Tryz.underlying83 rfl (by kernel_rfl) ?_));go_ret;exact⟨rfl,HB.out⟩
set_option maxHeartbeats 400000 in
theorem unsound_no (k p f v:Int) (h1:k≠1) (h2:k≠2) (h3:k≠3) (w:World):Calls Tryz.prog 116 #[.agg (aca ⟨k,p,f,v⟩)] w fun e w'=>e= .returned (.bool (!sndA ⟨k,p,f,v⟩))∧Below w.heap.size w w':=by
 have R0:=qH (Blk.new w (aca ⟨k,p,f,v⟩) 83);obtain⟨k0,_,_,_⟩:=cellA R0.out;have HB:=qH (below1 w (.cells (aca ⟨k,p,f,v⟩) 83));have hs:(!sndA ⟨k,p,f,v⟩)=true:=(by simp[sndA,h1,h2,h3]);rw[hs];clear hs;have e1:=beq_false h1;have e2:=beq_false h2;have e3:=beq_false h3;clear h1 h2 h3;(go_enter Tryz.func116,Tryz.ntmps116);go_wp2;go_ret;exact⟨rfl,HB.out⟩
theorem aunsound_any (a:Ac) (ha:WfA a) (w:World) (ht:Tab w) (hz:0<w.heap.size):Calls Tryz.prog 116 #[.agg (aca a)] w fun e w'=>e= .returned (.bool (!sndA a))∧Below w.heap.size w w':=by
 obtain⟨k,p,f,v⟩:=a;by_cases h1:k=1
 ·subst h1;exact unsound_one p f v w
 ·by_cases h2:k=2
  ·subst h2;exact unsound_two p f v ha.1 w ht hz
  ·by_cases h3:k=3
   ·subst h3;exact unsound_three p f v w
   ·exact unsound_no k p f v h1 h2 h3 w
theorem enAUnsound:Enters Tryz.prog 116:=enters_of Tryz.func116 (by kernel_rfl) rfl
theorem pred_aunsound {w:World} (ht:Tab w) (hz:0<w.heap.size):KPred (fun a=> .agg (aca a)) WfA 116 #[] (fun a=>!sndA a) w:=fun W hb c hc=>by
 obtain⟨h1,h2⟩:=(Env.start ht hz).predK W hb;exact aunsound_any c hc W h1 h2
theorem infoA:(Tryz.prog.info? 83).map (·.size)=some 4:=by kernel_rfl
theorem infoS:(Tryz.prog.info? 118).map (·.size)=some 13:=by kernel_rfl
theorem lt_some {α:Type} {l:List α} {i:Nat} (h:i<l.length):∃a,l[i]? =some a:=⟨_,List.getElem?_eq_getElem h⟩
set_option maxHeartbeats 1000000 in
theorem aindex_any (g:Nat) (cb:Array Value) (q:Ac→Bool) (eg:∀args w,(callFunc g args).run Tryz.prog w= .ok (.enter g args) w) (p:Option Addr) (cap:Nat) (l:List Ac) (hlen:l.length≤140737488355328) (hw:WfAL l) (w:World) (hl:KLies KA (.slice p l.length cap) l w) (hp:KPred (fun a=> .agg (aca a)) WfA g cb q w):Calls Tryz.prog 146 #[.slice p l.length cap,.func (.func g) #[] cb] w fun e w'=>e= .returned (.int .i64 (kidx q l))∧Below w.heap.size w w':=by
 have HL:=qH hl;have HP:=qH hp;have HW:=qH hw;clear hl hp hw;(go_enter Tryz.func146,Tryz.ntmps146);go_wp2;go_loopg [8] l.length (fun k i wr=>∃r:Nat,r+k=l.length∧i= .int .i64 r∧(∀j b,j<r→l[j]? =some b→q b=false)∧Below w.heap.size w wr)
 case atStart=>exact⟨0,by omega,rfl,fun j _ h=>absurd h (by omega),Below.refl _ _⟩
 case round=>
  obtain⟨r,hr,rfl,hq,hb⟩:=hrel;have HQ:=qH hq;have HB:=qH hb;clear hq hb;by_cases hlt:r<l.length
  ·have hltI:(r:Int)<(l.length:Int):=(by omega);obtain⟨c,hc⟩:=lt_some hlt;obtain⟨b,o,rfl,hrg⟩:=(HL.out.below okA HB.out).at hc;have HR:=qH hrg;have HI:=qH hc;have HC:=qH (HP.out wr HB.out c (HW.out.at hc));clear hrg hc;cases hq:q c
   ·rw[hq] at HC;have HH:=qH hq;clear hq;(go_wp2_with(first|(refine wpList_load_mid rfl 83 _ rfl b (o+r*4) rfl (acl c) _ HR.out Tryz.underlying83 rfl infoA ?_)|(go_at_fn g;refine HC.out.mono ?_;rintro e w1 ⟨rfl,hw1⟩)));have HB1:=qH (HB.out.trans (hw1.mono HB.out.size));clear hw1 HC HR;go_roundg (l.length - (r+1))
    case measure=>omega
    case rel=>
     refine⟨r+1,by omega,by go_num,fun j b' hj hb'=>?_,HB1.out⟩;by_cases e:j=r
     ·subst e;rw[HI.out] at hb';rw[←Option.some.inj hb'];exact HH.out
     ·exact HQ.out j b' (by omega) hb'
   ·rw[hq] at HC;have HH:=qH (kidx_hit HI.out hq HQ.out);clear hq;(go_wp2_with(first|(refine wpList_load_mid rfl 83 _ rfl b (o+r*4) rfl (acl c) _ HR.out Tryz.underlying83 rfl infoA ?_)|(go_at_fn g;refine HC.out.mono ?_;rintro e w1 ⟨rfl,hw1⟩)));have HB1:=qH (HB.out.trans (hw1.mono HB.out.size));clear hw1 HC HR;go_ret;exact⟨retI HH.out.symm,HB1.out⟩
  ·have hltI:¬(r:Int)<(l.length:Int):=(by omega);have HH:=qH (kidx_none (q:=q) (l:=l) fun j b hj=>HQ.out j b (by have:=(List.getElem?_eq_some_iff.1 hj).1;omega) hj);go_wp2;go_ret;exact⟨retI HH.out.symm,HB.out⟩
theorem acontains_any (g:Nat) (cb:Array Value) (q:Ac→Bool) (eg:∀args w,(callFunc g args).run Tryz.prog w= .ok (.enter g args) w) (v:Value) (l:List Ac) (hlen:l.length≤140737488355328) (hw:WfAL l) (w:World) (hl:KLies KA v l w) (hp:KPred (fun a=> .agg (aca a)) WfA g cb q w):Calls Tryz.prog 115 #[v,.func (.func g) #[] cb] w fun e w'=>e= .returned (.bool (l.any q))∧Below w.heap.size w w':=by
 obtain⟨p,cap,rfl⟩:=hl.form;have HI:=qH (aindex_any g cb q eg p cap l hlen hw w hl hp);have HA:=qH (kidx_any q l);clear hl hp hw;generalize kidx q l=i at*;(go_enter Tryz.func115,Tryz.ntmps115);(go_wp2_with(go_at_call 146;refine HI.out.mono ?_;rintro e w1 ⟨rfl,hw1⟩));go_ret;exact⟨ret_bool HA.out,hw1⟩
set_option maxHeartbeats 400000 in
theorem asound_any (v:Value) (l:List Ac) (hlen:l.length≤140737488355328) (hw:WfAL l) (w:World) (hl:KLies KA v l w) (ht:Tab w) (hz:0<w.heap.size):Calls Tryz.prog 79 #[v] w fun e w'=>e= .returned (.bool (sndAL l))∧Below w.heap.size w w':=by
 have HC:=qH (acontains_any 116 #[] (fun c=>!sndA c) enAUnsound v l hlen hw w hl (pred_aunsound ht hz));have HA:(!l.any fun c=>!sndA c)=l.all sndA:=(by rw[List.not_any_eq_all_not];simp);obtain⟨p,cap,rfl⟩:=hl.form;clear hl hw ht;unfold sndAL;by_cases h:l.length≤8
 ·have hI:(l.length:Int)≤8:=(by omega);have hd:decide (l.length≤8)=true:=decide_eq_true h;have hA:=qH HA;clear HA;(go_enter Tryz.func79,Tryz.ntmps79);(go_wp2_with(go_at_call 115;refine HC.out.mono ?_;rintro e w1 ⟨rfl,hw1⟩));go_ret;exact⟨ret_bool (by rw[hd,←hA.out];simp),hw1⟩
 ·have hI:¬(l.length:Int)≤8:=(by omega);have hd:decide (l.length≤8)=false:=decide_eq_false h;clear HC;(go_enter Tryz.func79,Tryz.ntmps79);go_wp2;go_ret;exact⟨ret_bool (by first|rfl|simp[hd]),Below.refl _ _⟩
def aEqL : List Ac → List Ac → Bool
  | [], [] => true
  | a :: l, b :: k => aEq a b && aEqL l k
  | _, _ => false
theorem aEqL_iff:∀l k:List Ac,aEqL l k=true↔l=k
 |[],[]=>by simp[aEqL]
 |[],_::_=>by simp[aEqL]
 |_::_,[]=>by simp[aEqL]
 |a::l,b::k=>by simp[aEqL,aEq_iff,aEqL_iff l k]
theorem aEqL_len {l k:List Ac} (h:l.length≠k.length):aEqL l k=false:=by
 rw[Bool.eq_false_iff];intro e;exact h (congrArg _ ((aEqL_iff l k).1 e))
theorem aEqL_ne {l k:List Ac} {i:Nat} {a b:Ac} (ha:l[i]? =some a) (hb:k[i]? =some b) (h:aEq a b=false):aEqL l k=false:=by
 rw[Bool.eq_false_iff];intro e;rw[(aEqL_iff l k).1 e,hb] at ha;have:=(aEq_iff a b).2 (Option.some.inj ha).symm;rw[this] at h;cases h
theorem aEqL_yes {l k:List Ac} (hl:l.length=k.length) (h:∀(j:Nat) a b,l[j]? =some a→k[j]? =some b→aEq a b=true):aEqL l k=true:=by
 rw[aEqL_iff];apply List.ext_getElem hl;intro i h1 h2;exact(aEq_iff _ _).1 (h i _ _ (List.getElem?_eq_getElem h1) (List.getElem?_eq_getElem h2))
def stepH (h : Nat → Int) (a : Ac) : Nat → Int := if a.k = 2 then upd h a.f.toNat a.v else h
def stepS (h : Nat → Int) (a : Ac) : List Sn := if a.k = 1 then [⟨a.p, h⟩] else []
def runS : (Nat → Int) → List Ac → List Sn
  | _, [] => []
  | h, a :: l => stepS h a ++ runS (stepH h a) l
def hasT (l : List Ac) : Bool := l.any fun a => a.k == 3
def runV (l : List Ac) (h : Nat → Int) : List Sn := if sndAL l then runS h l else []
def runB (l : List Ac) : Bool := sndAL l && hasT l
def RunRet (w : World) (L : List Sn) (b : Bool) (e : Ending) (w' : World) : Prop := ∃ v, e = .returned (.tuple #[v, .bool b]) ∧ KOwns KS w.heap.size v L w' ∧ Below w.heap.size w w'
theorem dropAt {α:Type} {l:List α} {r:Nat} {c:α} (h:l[r]? =some c):l.drop r=c::l.drop (r+1):=by
 obtain⟨h1,h2⟩:=List.getElem?_eq_some_iff.1 h;rw[List.drop_eq_getElem_cons h1,h2]
theorem setE_any {n v:Int} (h:setE n v=0) (g:Nat→Int):setV g n v=upd g n.toNat v:=by
 obtain⟨k,rfl,hk,hf⟩:=setE_zero h;rw[setV_in g k v hk hf];rfl
def RunAt (w : World) (g : Nat → Int) (out : Value) (L : List Sn) (W : World) : Prop := Blk w.heap.size (hc g) 35 W ∧ KOwns KS (w.heap.size + 1) out L W ∧ Below w.heap.size w W
section
variable {w W W' : World} {g : Nat → Int} {out : Value} {L : List Sn}
theorem RunAt.below (h:RunAt w g out L W) (hb:Below W.heap.size W W'):RunAt w g out L W':=⟨h.1.below hb,h.2.1.below hb,h.2.2.trans (hb.mono h.2.2.size)⟩
theorem RunAt.lt (h:RunAt w g out L W):w.heap.size<W.heap.size:=h.1.lt
theorem RunAt.grown {v':Value} {L':List Sn} (h:RunAt w g out L W) (h':KOwns KS (w.heap.size+1) v' L' W') (hg:W.grownBy W' out.ownBlock):RunAt w g v' L' W':=⟨h.1.grown h.2.1 (by omega) hg,h',kbelowOwn h.2.2 h.2.1 (by omega) hg⟩
theorem RunAt.rset (h:RunAt w g out L W) (g':Nat→Int):RunAt w g' out L (W.setRow w.heap.size (hc g')):=⟨h.1.rset _,h.2.1.other fun b hb _=>setRow_other _ _ _ _ (by omega),below_setRow h.2.2 (by omega) _⟩
end
theorem sna_flat (s:Sn):(sna s).toList=(⟨118,56,13,104,snl⟩:Kd Sn).flat [s]:=rfl
theorem run_none (v:Value) (l:List Ac) (h:Nat→Int) (hlen:l.length≤140737488355328) (hw:WfAL l) (hs:sndAL l=false) (w:World) (hl:KLies KA v l w) (ht:Tab w) (hz:0<w.heap.size):Calls Tryz.prog 45 #[v,.agg (hc h)] w (RunRet w [] false):=by
 have HE:=qH ((Env.start ht hz).alloc (.cells (hc h) 35));have HS:=qH (asound_any v l hlen hw _ (hl.below okA (below1 w (.cells (hc h) 35))) HE.out.tab HE.out.lt);obtain⟨p,cap,rfl⟩:=hl.form;rw[hs] at HS;clear hl hw ht hs;(go_enter Tryz.func45,Tryz.ntmps45);(go_wp2_with(go_at_call 79;refine HS.out.mono ?_;rintro e w1 ⟨rfl,hw1⟩));have HB:=qH (HE.out.below hw1).kept;clear hw1 HE HS;(go_ret2);exact⟨_,rfl,KOwns.nil _ _,HB.out⟩
theorem zeroOf {T:TypeId} {zs:Array Value} {i:TypeInfo} {z:Value} (h:((Tryz.prog.info? T).bind (·.zero)).map (·.cells)=some zs) (hi:Tryz.prog.info? T=some i) (hz:i.zero=some z):z.cells=zs:=by
 rw[hi] at h;simpa [hz] using h
theorem kbuild {α:Type} (K:Kd α) (ok:K.Ok) (m:Nat) (zs:Array Value) (hzs:((Tryz.prog.info? K.T).bind (·.zero)).map (·.cells)=some zs) {ops:Array Oper} {rest:List Oper} {o:Oper} {a:Act} {w:World} {Q:Exit→Act→World→Prop} (hg:o.guard=none) (parts:Array (Nat×Operand)) (ho:o.op= .buildSlice K.S m parts) (vs:List (Nat×Value)) (hv:(parts.map fun(p:Nat×Operand)=>(p.1,a.eval p.2)).toList=vs) (cs:Array Value) (hsm:m*K.n≤1000) (hm:0<m) (hf:Instr.fill (fun i'=>some (i'*K.n,K.n)) ((Array.range (m*K.n)).map (zs[· % zs.size]!)) vs=some cs) (h:wpList Tryz.prog ops Q rest (a.put o.dst (.slice (some ⟨w.heap.size,0,none⟩) m m)) (w.alloc (.cells cs K.T))):wpList Tryz.prog ops Q (o::rest) a w:=by
 obtain⟨i,z,hi,hz,hs,hb,hc⟩:=ok.info;have hzc:=zeroOf hzs hi hz;refine wpList_buildSlice hg K.S K.T m parts ho cs i z ok.under hi hz ?_ ?_ ?_ h
 ·rw[hs];omega
 ·rw[hs];have:=ok.pos;have:0<m*K.n:=Nat.mul_pos hm this;omega
 ·rw[hs,hzc];exact(congrArg (Instr.fill (fun i'=>some (i'*K.n,K.n)) ((Array.range (m*K.n)).map (zs[· % zs.size]!))) hv).trans hf
theorem kbuildOne {α:Type} (K:Kd α) (ok:K.Ok) (zs:Array Value) (hzs:((Tryz.prog.info? K.T).bind (·.zero)).map (·.cells)=some zs) {ops:Array Oper} {rest:List Oper} {o:Oper} {a:Act} {w:World} {Q:Exit→Act→World→Prop} (hg:o.guard=none) (x:Operand) (ho:o.op= .buildSlice K.S 1 #[(0,x)]) (cs:Array Value) (hx:a.eval x= .agg cs) (hsm:1*K.n≤1000) (hf:Instr.fill (fun i'=>some (i'*K.n,K.n)) ((Array.range (1*K.n)).map (zs[· % zs.size]!)) [(0,.agg cs)]=some cs) (h:wpList Tryz.prog ops Q rest (a.put o.dst (.slice (some ⟨w.heap.size,0,none⟩) 1 1)) (w.alloc (.cells cs K.T))):wpList Tryz.prog ops Q (o::rest) a w:=kbuild K ok 1 zs hzs hg _ ho _ (by simp[hx]) cs hsm (by decide) hf h
def zA : Array Value := #[.int .i64 0, .int .i64 0, .int .i64 0, .int .u64 0]
def zS : Array Value := #[.int .i64 0, .int .u64 0, .int .u64 0, .int .u64 0, .int .u64 0, .int .u64 0, .int .u64 0, .int .u64 0, .int .u64 0, .int .u64 0, .int .u64 0, .int .u64 0, .int .u64 0]
theorem zeroA:((Tryz.prog.info? (KA).T).bind (·.zero)).map (·.cells)=some zA:=by kernel_rfl
theorem zeroS:((Tryz.prog.info? 118).bind (·.zero)).map (·.cells)=some zS:=by kernel_rfl
theorem fillS (s:Sn):Instr.fill (fun i'=>some (i'*13,13)) ((Array.range (1*13)).map (zS[· % zS.size]!)) [(0,.agg (sna s))]=some (sna s):=by kernel_rfl
theorem fillA (s:Ac):Instr.fill (fun i'=>some (i'*4,4)) ((Array.range (1*4)).map (zA[· % zA.size]!)) [(0,.agg (aca s))]=some (aca s):=by kernel_rfl
theorem builtS (p:Int) (g:Nat→Int):Tryz.prog.built 118 [(0,.int .i64 p),(1,.agg (hc g))]=some (sna ⟨p,g⟩):=by kernel_rfl
theorem buildS {ops:Array Oper} {rest:List Oper} {o:Oper} {a:Act} {w:World} {Q:Exit→Act→World→Prop} (hg:o.guard=none) (x y:Operand) (ho:o.op= .build 118 #[(0,x),(1,y)]) (p:Int) (g:Nat→Int) (hx:a.eval x= .int .i64 p) (hy:a.eval y= .agg (hc g)) (h:wpList Tryz.prog ops Q rest (a.put o.dst (.agg (sna ⟨p,g⟩))) w):wpList Tryz.prog ops Q (o::rest) a w:=by
 have e:Tryz.prog.built 118 ((#[(0,x),(1,y)]:Array (Nat×Operand)).map fun(q:Nat×Operand)=>(q.1,a.eval q.2)).toList=some (sna ⟨p,g⟩):=(by simp only[List.map_toArray,List.map_cons,List.map_nil,hx,hy];exact builtS p g);refine wpList_build hg _ _ ho (by rw[e];rfl) ?_;rw[e];exact h
theorem snd_len {l:List Ac} (h:sndAL l=true):l.length≤8:=by
 unfold sndAL at h;rw[Bool.and_eq_true,decide_eq_true_eq] at h;exact h.1
theorem snd_mem {l:List Ac} (h:sndAL l=true) {i:Nat} {c:Ac} (hi:l[i]? =some c):sndA c=true:=by
 unfold sndAL at h;rw[Bool.and_eq_true] at h;exact List.all_eq_true.1 h.2 c (List.mem_of_getElem? hi)
theorem snd_cases' {c:Ac} (h:sndA c=true):(∃p,c=⟨1,p,0,0⟩∧1≤p∧p≤16)∨(∃f v,c=⟨2,0,f,v⟩∧setE f v=0)∨c=⟨3,0,0,0⟩:=by
 obtain⟨k,p,f,v⟩:=c;unfold sndA at h;by_cases h1:k=1
 ·subst h1;simp only[if_true,Bool.and_eq_true,decide_eq_true_eq,beq_iff_eq] at h;obtain⟨⟨⟨a1,a2⟩,rfl⟩,rfl⟩:=h;exact .inl ⟨p,rfl,a1,a2⟩
 ·by_cases h2:k=2
  ·subst h2;simp at h;obtain⟨a1,rfl⟩:=h;exact .inr (.inl ⟨f,v,rfl,a1⟩)
  ·by_cases h3:k=3
   ·subst h3;simp at h;obtain⟨⟨rfl,rfl⟩,rfl⟩:=h;exact .inr (.inr rfl)
   ·simp[h1,h2,h3] at h
set_option maxHeartbeats 2000000 in
theorem run_yes (v:Value) (l:List Ac) (h:Nat→Int) (T:List Sn) (B:Bool) (hT:runS h l=T) (hB:hasT l=B) (hlen:l.length≤140737488355328) (hw:WfAL l) (hs:sndAL l=true) (w:World) (hl:KLies KA v l w) (ht:Tab w) (hz:0<w.heap.size):Calls Tryz.prog 45 #[v,.agg (hc h)] w (RunRet w T B):=by
 have hE:=(Env.start ht hz).alloc (.cells (hc h) 35);have HS:=qH (asound_any v l hlen hw _ (hl.below okA (below1 w (.cells (hc h) 35))) hE.tab hE.lt);rw[hs] at HS;obtain⟨p,cap,rfl⟩:=hl.form;have HL:=qH hl;have HW:=qH hw;have HK:=qH hs;have HE:=qH hE;have HT:=qH (And.intro hT hB);have H0:=qH (And.intro ht hz);have hl8:=snd_len hs;clear hl hw ht hs hE hT hB hz;(go_enter Tryz.func45,Tryz.ntmps45);(go_wp2_with(go_at_call 79;refine HS.out.mono ?_;rintro e w1 ⟨rfl,hw1⟩));have HA:=qH (show RunAt w h (.slice none 0 0) [] w1 from⟨(Blk.new w (hc h) 35).below hw1,KOwns.nil _ _,(HE.out.below hw1).kept⟩);clear hw1 HE HS;go_loopw [13,4,5] (fun i out tl wr=>∃(r:Nat) (g:Nat→Int) (L:List Sn) (b:Bool),r≤l.length∧i= .int .i64 r∧tl= .bool b∧L++runS g (l.drop r)=T∧(b||hasT (l.drop r))=B∧L.length≤r∧RunAt w g out L wr) (fun i _ _ _=>(l.length - intOf i).toNat)
 case atStart=>exact⟨0,h,[],false,by omega,rfl,rfl,by simpa using HT.out.1,by simpa using HT.out.2,by simp,HA.out⟩
 case round=>
  clear HA;obtain⟨r,g,L,b,hr,rfl,rfl,h1,h2,h3,hA⟩:=hrel;have HA:=qH hA;have HC:=qH (And.intro h1 (And.intro h2 h3));clear hA h1 h2 h3;by_cases hlt:r<l.length
  ·have hltI:(r:Int)<(l.length:Int):=(by omega);obtain⟨c,hc'⟩:=lt_some hlt;obtain⟨bb,o,rfl,hrg⟩:=(HL.out.below okA HA.out.2.2).at hc';have HR:=qH hrg;have HD:=qH (dropAt hc');have HWf:=qH (HW.out.at hc');rcases snd_cases' (snd_mem HK.out hc') with⟨pt,rfl,p1,p2⟩|⟨f,x,rfl,hse⟩|rfl
   ·clear hrg hc' p1 p2;have R1:=qH (Blk.new wr (aca ⟨1,pt,0,0⟩) 83);have HA1:=qH (HA.out.below (below1 wr (.cells (aca ⟨1,pt,0,0⟩) 83)));have HV:=qH (H0.out.1.below H0.out.2 HA1.out.2.2);have HZ:=qH (Nat.lt_of_lt_of_le H0.out.2 HA1.out.2.2.size);(go_upto_region 6 with(first|(refine wpList_load_mid rfl 83 _ rfl bb (o+r*4) rfl (acl ⟨1,pt,0,0⟩) _ HR.out Tryz.underlying83 rfl infoA ?_)|(refine wpList_store_row rfl 83 _ _ rfl wr.heap.size (aca ⟨1,pt,0,0⟩) rfl rfl 83 _ (heap_alloc_new _ _) (by kernel_rfl) rfl (aca_one _) ?_;rw[World.setRow_alloc_new])));clear HA HR;generalize wr.heap.size=Bk at*;generalize wr.alloc (.cells (aca ⟨1,pt,0,0⟩) 83)=W1 at*;obtain⟨k0,k1,k2,k3⟩:=cellA R1.out;have RS:=qH (Blk.new W1 (sna ⟨pt,g⟩) 118);have HA2:=qH (HA1.out.below (below1 W1 (.cells (sna ⟨pt,g⟩) 118)));(go_upto_region 8 with(fail));(go_wp2_with(first|(refine wpList_load_row rfl 35 (.tmp 3) rfl w.heap.size rfl 35 (hc g) (0,0) _ HA1.out.1 Tryz.underlying35 rfl (by kernel_rfl) ?_)|(refine buildS rfl (.tmp 23) (.tmp 24) rfl pt g rfl rfl ?_)|(refine kbuildOne KS okS zS zeroS rfl (.tmp 25) rfl (sna ⟨pt,g⟩) rfl (by decide) (fillS _) ?_;refine Hid.out ?_)));refine qH ?_;refine kappend KS okS rfl (.tmp 21) (.tmp 26) rfl (w.heap.size+1) u4 L [⟨pt,g⟩] rfl HA2.out.2.1 _ rfl (RS.out.klies okS (sna_flat _)) (by have:=HA2.out.lt;omega) (by have:=HC.out.2.2;simp;omega) (fun v' w' ho hg=>?_);have HA3:=qH (HA2.out.grown ho hg);clear ho hg HA2 HA1 RS R1 HV HZ k0 k1 k2 k3;(go_wp2_with(fail));go_roundw
    case rel=>
     refine⟨r+1,g,L++[⟨pt,g⟩],b,by omega,by go_num,rfl,?_,?_,by have:=HC.out.2.2;simp;omega,HA3.out⟩
     ·have e:=HC.out.1;rw[HD.out] at e;simpa [runS,stepS,stepH] using e
     ·have e:=HC.out.2.1;rw[HD.out] at e;simpa [hasT] using e
    case measure=>simp[intOf];omega
   ·clear hrg hc';have R1:=qH (Blk.new wr (aca ⟨2,0,f,x⟩) 83);have HA1:=qH (HA.out.below (below1 wr (.cells (aca ⟨2,0,f,x⟩) 83)));have HV:=qH (H0.out.1.below H0.out.2 HA1.out.2.2);have HZ:=qH (Nat.lt_of_lt_of_le H0.out.2 HA1.out.2.2.size);(go_upto_region 6 with(first|(refine wpList_load_mid rfl 83 _ rfl bb (o+r*4) rfl (acl ⟨2,0,f,x⟩) _ HR.out Tryz.underlying83 rfl infoA ?_)|(refine wpList_store_row rfl 83 _ _ rfl wr.heap.size (aca ⟨2,0,f,x⟩) rfl rfl 83 _ (heap_alloc_new _ _) (by kernel_rfl) rfl (aca_one _) ?_;rw[World.setRow_alloc_new])));clear HA HR;generalize wr.heap.size=Bk at*;generalize wr.alloc (.cells (aca ⟨2,0,f,x⟩) 83)=W1 at*;obtain⟨k0,k1,k2,k3⟩:=cellA R1.out;have HS:=qH (set_any g f x W1 HWf.out.1 HV.out HZ.out);rw[setE_any hse,hse] at HS;clear hse;(go_upto_region 10 with(fail));(go_wp2_with(first|(refine wpList_load_row rfl 35 (.tmp 3) rfl w.heap.size rfl 35 (hc g) (0,0) _ HA1.out.1 Tryz.underlying35 rfl (by kernel_rfl) ?_)|(go_at_call 80;refine HS.out.mono ?_;rintro e w2 ⟨rfl,hw2⟩)|(refine wpList_store_row rfl 35 (.tmp 3) (.tmp 37) rfl w.heap.size (hc (upd g f.toNat x)) rfl rfl 35 _ (HA1.out.below hw2).1 (by kernel_rfl) rfl (hc_one _) ?_;refine Hid.out ?_)));refine qH ?_;have HA3:=qH ((HA1.out.below hw2).rset (upd g f.toNat x));clear hw2 HS HA1 R1 HV HZ k0 k1 k2 k3;generalize w2.setRow w.heap.size (hc (upd g f.toNat x))=W3 at*;(go_wp2_with(fail));go_roundw
    case rel=>
     refine⟨r+1,upd g f.toNat x,L,b,by omega,by go_num,rfl,?_,?_,by have:=HC.out.2.2;simp;omega,HA3.out⟩
     ·have e:=HC.out.1;rw[HD.out] at e;simpa [runS,stepS,stepH] using e
     ·have e:=HC.out.2.1;rw[HD.out] at e;simpa [hasT] using e
    case measure=>simp[intOf];omega
   ·clear hrg hc';have R1:=qH (Blk.new wr (aca ⟨3,0,0,0⟩) 83);have HA1:=qH (HA.out.below (below1 wr (.cells (aca ⟨3,0,0,0⟩) 83)));have HV:=qH (H0.out.1.below H0.out.2 HA1.out.2.2);have HZ:=qH (Nat.lt_of_lt_of_le H0.out.2 HA1.out.2.2.size);(go_upto_region 6 with(first|(refine wpList_load_mid rfl 83 _ rfl bb (o+r*4) rfl (acl ⟨3,0,0,0⟩) _ HR.out Tryz.underlying83 rfl infoA ?_)|(refine wpList_store_row rfl 83 _ _ rfl wr.heap.size (aca ⟨3,0,0,0⟩) rfl rfl 83 _ (heap_alloc_new _ _) (by kernel_rfl) rfl (aca_one _) ?_;rw[World.setRow_alloc_new])));clear HA HR;generalize wr.heap.size=Bk at*;generalize wr.alloc (.cells (aca ⟨3,0,0,0⟩) 83)=W1 at*;obtain⟨k0,k1,k2,k3⟩:=cellA R1.out;have HA3:=HA1;clear HA1;(go_wp2_with(fail));go_roundw
    case rel=>
     refine⟨r+1,g,L,true,by omega,by go_num,rfl,?_,?_,by have:=HC.out.2.2;simp;omega,HA3.out⟩
     ·have e:=HC.out.1;rw[HD.out] at e;simpa [runS,stepS,stepH] using e
     ·have e:=HC.out.2.1;rw[HD.out] at e;simpa [hasT] using e
    case measure=>simp[intOf];omega
  ·have hltI:¬(r:Int)<(l.length:Int):=(by omega);have e:l.drop r=[]:=List.drop_eq_nil_of_le (by omega);have HC':=HC.out;rw[e] at HC';have e1:L=T:=(by simpa [runS] using HC'.1);have e2:b=B:=(by simpa [hasT] using HC'.2.1);subst e1 e2;have HF:=qH (HA.out.2.1.mono (show w.heap.size≤w.heap.size+1 by omega));have HB:=qH HA.out.2.2;obtain⟨p',cap',rfl⟩:=HA.out.2.1.form;clear HC' e HA HC;go_wp2;(go_ret2);exact⟨_,rfl,HF.out,HB.out⟩
theorem run_any (v:Value) (l:List Ac) (h:Nat→Int) (hlen:l.length≤140737488355328) (hw:WfAL l) (w:World) (hl:KLies KA v l w) (ht:Tab w) (hz:0<w.heap.size):Calls Tryz.prog 45 #[v,.agg (hc h)] w (RunRet w (runV l h) (runB l)):=by
 unfold runV runB;cases hs:sndAL l
 ·exact run_none v l h hlen hw hs w hl ht hz
 ·exact run_yes v l h _ _ rfl rfl hlen hw hs w hl ht hz
theorem sndAL_no {l:List Ac} {i:Nat} {c:Ac} (hi:l[i]? =some c) (h:sndA c=false):sndAL l=false:=by
 have:l.all sndA=false:=(by rw[List.all_eq_false];exact⟨c,List.mem_of_getElem? hi,by simp[h]⟩);simp[sndAL,this]
theorem sndAL_end {l:List Ac} (h:∀(j:Nat) b,l[j]? =some b→sndA b=true):sndAL l=decide (l.length≤8):=by
 have:l.all sndA=true:=(by rw[List.all_eq_true];intro x hx;obtain⟨j,hj,rfl⟩:=List.mem_iff_getElem.1 hx;exact h j _ (List.getElem?_eq_getElem hj));simp[sndAL,this]
def ActS (w : World) (B : Nat) (c : Ac) (W : World) : Prop := Blk B (aca c) 83 W ∧ Below w.heap.size w W
theorem ActS.below {w:World} {B:Nat} {c:Ac} {W W':World} (hb:Below W.heap.size W W') (h:ActS w B c W):ActS w B c W':=⟨h.1.below hb,h.2.trans (hb.mono h.2.size)⟩
theorem a1_ok {p:Int} (g1:1≤p) (g2:p≤16):sndA ⟨1,p,0,0⟩=true:=by simp[sndA,g1,g2]
theorem a1_no {p f x:Int} (h:¬1≤p∨¬p≤16∨f≠0∨x≠0):sndA ⟨1,p,f,x⟩=false:=by
 rcases h with h|h|h|h<;>simp[sndA,h]
theorem a2_ok {n:Nat} {x:Int} (hn:n<12) (hf:fitB n x=true):sndA ⟨2,0,n,x⟩=true:=by simp[sndA,setE_in n x hn hf]
theorem a2_p {p f x:Int} (h:p≠0):sndA ⟨2,p,f,x⟩=false:=by simp[sndA,h]
theorem a2_e {p f x:Int} (h:setE f x≠0):sndA ⟨2,p,f,x⟩=false:=by simp[sndA,h]
theorem setE_out {f x:Int} (h:¬0≤f∨¬f<12):setE f x≠0:=fun e=>by
 obtain⟨m,rfl,e1,_⟩:=setE_zero e;omega
theorem setE_big {n:Nat} {x:Int} (h:fitB n x=false):setE (n:Int) x≠0:=fun e=>by
 obtain⟨m,e1,_,e2⟩:=setE_zero e;obtain rfl:n=m:=(by omega);rw[e2] at h;cases h
theorem a3_ok:sndA ⟨3,0,0,0⟩=true:=by simp[sndA]
theorem a3_no {p f x:Int} (h:p≠0∨f≠0∨x≠0):sndA ⟨3,p,f,x⟩=false:=by
 rcases h with h|h|h<;>simp[sndA,h]
theorem a_no {k p f x:Int} (h1:k≠1) (h2:k≠2) (h3:k≠3):sndA ⟨k,p,f,x⟩=false:=by simp[sndA,h1,h2,h3]
set_option maxRecDepth 100000 in
set_option maxHeartbeats 4000000 in
theorem racts_any (v:Value) (l:List Ac) (hlen:l.length≤140737488355328) (hw:WfAL l) (w:World) (hl:KLies KA v l w):Calls Tryz.prog 51 #[v] w fun e w'=>e= .returned (.bool (sndAL l))∧Below w.heap.size w w':=by
 have HL:=qH hl;have HW:=qH hw;obtain⟨p0,cap,rfl⟩:=hl.form;clear hl hw;(go_enter Tryz.func51,Tryz.ntmps51);go_wp2;go_loopg [3] l.length (fun kk i wr=>∃r:Nat,r+kk=l.length∧i= .int .i64 r∧(∀(j:Nat) b,j<r→l[j]? =some b→sndA b=true)∧Below w.heap.size w wr)
 case atStart=>exact⟨0,by omega,rfl,fun j _ h=>absurd h (by omega),Below.refl _ _⟩
 case round=>
  obtain⟨r,hr,rfl,hq,hb⟩:=hrel;have HQ:=qH hq;have HB:=qH hb;clear hq hb;by_cases hlt:r<l.length
  ·have hltI:(r:Int)<(l.length:Int):=(by omega);obtain⟨c,hc'⟩:=lt_some hlt;obtain⟨bb,o,rfl,hrg⟩:=(HL.out.below okA HB.out).at hc';have HR:=qH hrg;have HI:=qH hc';have HWf:=qH (HW.out.at hc');have R1:=qH (Blk.new wr (aca c) 83);have HB1:=qH (HB.out.trans ((below1 wr (.cells (aca c) 83)).mono HB.out.size));clear hrg hc';(go_upto_region 6 with(first|(refine wpList_load_mid rfl 83 _ rfl bb (o+r*4) rfl (acl c) _ HR.out Tryz.underlying83 rfl infoA ?_)|(refine wpList_store_row rfl 83 _ _ rfl wr.heap.size (aca c) rfl rfl 83 _ (heap_alloc_new _ _) (by kernel_rfl) rfl (aca_one _) ?_;rw[World.setRow_alloc_new])));clear HR HB;generalize wr.heap.size=Bk at*;generalize wr.alloc (.cells (aca c) 83)=W1 at*;obtain⟨k,p,f,x⟩:=c;obtain⟨k0,k1,k2,k3⟩:=cellA R1.out;have c0:W1.cell? ⟨Bk,0,none⟩=some (.int .i64 k):=k0;have c1:W1.cell? ⟨Bk,1,none⟩=some (.int .i64 p):=k1;have c2:W1.cell? ⟨Bk,2,none⟩=some (.int .i64 f):=k2;have c3:W1.cell? ⟨Bk,3,none⟩=some (.int .u64 x):=k3;clear k0 k1 k2 k3;by_cases h1:k=1
   ·subst h1;by_cases g1:1≤p
    ·by_cases g2:p≤16
     ·by_cases g3:f=0
      ·subst g3;by_cases g4:x=0
       ·subst g4;have HN:=qH (a1_ok g1 g2);(go_wp2_with(fail));go_roundg (l.length - (r+1))
        case measure=>omega
        case rel=>
         refine⟨r+1,by omega,by go_num,fun j b' hj hb'=>?_,HB1.out⟩;by_cases e:j=r
         ·subst e;rw[HI.out] at hb';rw[←Option.some.inj hb'];exact HN.out
         ·exact HQ.out j b' (by omega) hb'
       ·have g4':=beq_false g4;have HN:=qH (sndAL_no HI.out (a1_no (.inr (.inr (.inr g4)))));clear g4;(go_wp2_with(fail));go_ret;exact⟨ret_bool HN.out.symm,HB1.out⟩
      ·have g3':=beq_false g3;have HN:=qH (sndAL_no HI.out (a1_no (.inr (.inr (.inl g3)))));clear g3;(go_wp2_with(fail));go_ret;exact⟨ret_bool HN.out.symm,HB1.out⟩
     ·have hn:=g2;have HN:=qH (sndAL_no HI.out (a1_no (.inr (.inl g2))));(go_wp2_with(fail));go_ret;exact⟨ret_bool HN.out.symm,HB1.out⟩
    ·have hn:=g1;have HN:=qH (sndAL_no HI.out (a1_no (.inl g1)));(go_wp2_with(fail));go_ret;exact⟨ret_bool HN.out.symm,HB1.out⟩
   ·by_cases h2:k=2
    ·subst h2;by_cases g1:p=0
     ·subst g1;have hb0:((0:Int)==0)=true:=rfl;by_cases g2:0≤f
      ·have d2:decide (0≤f)=true:=decide_eq_true g2;by_cases g3:f<12
       ·have d3:decide (f<12)=true:=decide_eq_true g3;obtain⟨n,rfl⟩:∃n:Nat,f=n:=⟨f.toNat,by omega⟩;have hn:n<12:=(by omega);have HS0:=qH (show ActS w Bk ⟨2,0,n,x⟩ W1 from⟨R1.out,HB1.out⟩);have HFt:=qH (fun W=>rfits_any n x W);have HSz:=qH (fun W=>rsize_in n W hn);cases hf:fitB n x
        ·have hE:=setE_big hf;have HN:=qH (sndAL_no HI.out (a2_e hE));clear hE;rw[hf] at HFt;clear hf g2 g3 d2 d3;have d2:decide (0≤(n:Int))=true:=decide_eq_true (by omega);have d3:decide ((n:Int)<12)=true:=decide_eq_true (by omega);clear hltI;(go_upto_region 10 with(fail));refine wp_region_held_drew (S:=ActS w Bk ⟨2,0,n,x⟩) (by kernel_rfl) (ActS.below (Below.refl _ _).drew HS0.out) (fun hS=>?_);clear c0 c1 c2 c3 HS0 R1 HB1;refine sR 0 hS ?_;refine sV 1 rfl (fun w hSw=>by have hq:=(cellA hSw.1).2.1;go_simp<;>with_reducible rfl) hS ?_;refine sR 2 hS ?_;refine sR 3 hS ?_;refine sR 4 hS ?_;refine sV 5 rfl (fun w hSw=>by have hq:=(cellA hSw.1).2.2.1;go_simp<;>with_reducible rfl) hS ?_;refine sR 6 hS ?_;refine sR 7 hS ?_;refine sR 8 hS ?_;refine sR 9 hS ?_;refine sV 10 rfl (fun w hSw=>by have hq:=(cellA hSw.1).2.2.1;go_simp<;>with_reducible rfl) hS ?_;refine sR 11 hS ?_;refine sR 12 hS ?_;refine sR 13 hS ?_;refine sR 14 hS ?_;refine sV 15 rfl (fun w hSw=>by have hq:=(cellA hSw.1).2.2.2;go_simp<;>with_reducible rfl) hS ?_;refine sR 16 hS ?_;refine sV 17 rfl (fun w hSw=>by have hq:=(cellA hSw.1).2.2.1;go_simp<;>with_reducible rfl) hS ?_;refine sC 18 (fun K hK=>?_);go_simp;refine(HSz.out _).mono ?_;rintro e w5 ⟨rfl,hw5⟩;refine hK.out _ _ (ActS.below hw5 hS) (fun hS=>?_);clear hK K hw5;(try simp only[Act.put,sA,sB,sE]);refine sC 19 (fun K hK=>?_);go_simp;refine(HFt.out _).mono ?_;rintro e w6 ⟨rfl,rfl⟩;refine hK.out _ _ hS (fun hS=>?_);clear hK K;(try simp only[Act.put,sA,sB,sE]);refine sR 20 hS ?_;refine sR 21 hS ?_;refine sD ?_;(go_wp2_with(fail));go_ret;exact⟨ret_bool HN.out.symm,hS.2⟩
        ·have hE:=setE_in n x hn hf;have HN:=qH (a2_ok hn hf);clear hE;rw[hf] at HFt;clear hf g2 g3 d2 d3;have d2:decide (0≤(n:Int))=true:=decide_eq_true (by omega);have d3:decide ((n:Int)<12)=true:=decide_eq_true (by omega);clear hltI;(go_upto_region 10 with(fail));refine wp_region_held_drew (S:=ActS w Bk ⟨2,0,n,x⟩) (by kernel_rfl) (ActS.below (Below.refl _ _).drew HS0.out) (fun hS=>?_);clear c0 c1 c2 c3 HS0 R1 HB1;refine sR 0 hS ?_;refine sV 1 rfl (fun w hSw=>by have hq:=(cellA hSw.1).2.1;go_simp<;>with_reducible rfl) hS ?_;refine sR 2 hS ?_;refine sR 3 hS ?_;refine sR 4 hS ?_;refine sV 5 rfl (fun w hSw=>by have hq:=(cellA hSw.1).2.2.1;go_simp<;>with_reducible rfl) hS ?_;refine sR 6 hS ?_;refine sR 7 hS ?_;refine sR 8 hS ?_;refine sR 9 hS ?_;refine sV 10 rfl (fun w hSw=>by have hq:=(cellA hSw.1).2.2.1;go_simp<;>with_reducible rfl) hS ?_;refine sR 11 hS ?_;refine sR 12 hS ?_;refine sR 13 hS ?_;refine sR 14 hS ?_;refine sV 15 rfl (fun w hSw=>by have hq:=(cellA hSw.1).2.2.2;go_simp<;>with_reducible rfl) hS ?_;refine sR 16 hS ?_;refine sV 17 rfl (fun w hSw=>by have hq:=(cellA hSw.1).2.2.1;go_simp<;>with_reducible rfl) hS ?_;refine sC 18 (fun K hK=>?_);go_simp;refine(HSz.out _).mono ?_;rintro e w5 ⟨rfl,hw5⟩;refine hK.out _ _ (ActS.below hw5 hS) (fun hS=>?_);clear hK K hw5;(try simp only[Act.put,sA,sB,sE]);refine sC 19 (fun K hK=>?_);go_simp;refine(HFt.out _).mono ?_;rintro e w6 ⟨rfl,rfl⟩;refine hK.out _ _ hS (fun hS=>?_);clear hK K;(try simp only[Act.put,sA,sB,sE]);refine sR 20 hS ?_;refine sR 21 hS ?_;refine sD ?_;(go_wp2_with(fail));go_roundg (l.length - (r+1))
         case measure=>omega
         case rel=>
          refine⟨r+1,by omega,by go_num,fun j b' hj hb'=>?_,hS.2⟩;by_cases e:j=r
          ·subst e;rw[HI.out] at hb';rw[←Option.some.inj hb'];exact HN.out
          ·exact HQ.out j b' (by omega) hb'
       ·have d3:decide (f<12)=false:=decide_eq_false g3;have hE:setE f x≠0:=setE_out (.inr g3);have HN:=qH (sndAL_no HI.out (a2_e hE));clear hE g2 g3;(go_upto_region 10 with(fail));(go_quiet (fail));have HB2:=qH (HB1.out.trans ((belowDrewN W1 nq).mono HB1.out.size));generalize W1.drewN nq=W2 at*;(go_wp2_with(fail));go_ret;exact⟨ret_bool HN.out.symm,HB2.out⟩
      ·have d2:decide (0≤f)=false:=decide_eq_false g2;have hE:setE f x≠0:=setE_out (.inl g2);have HN:=qH (sndAL_no HI.out (a2_e hE));clear hE g2;(go_upto_region 10 with(fail));(go_quiet (fail));have HB2:=qH (HB1.out.trans ((belowDrewN W1 nq).mono HB1.out.size));generalize W1.drewN nq=W2 at*;(go_wp2_with(fail));go_ret;exact⟨ret_bool HN.out.symm,HB2.out⟩
     ·have g1':=beq_false g1;have HN:=qH (sndAL_no HI.out (a2_p g1));clear g1;(go_upto_region 10 with(fail));(go_quiet (fail));have HB2:=qH (HB1.out.trans ((belowDrewN W1 nq).mono HB1.out.size));generalize W1.drewN nq=W2 at*;(go_wp2_with(fail));go_ret;exact⟨ret_bool HN.out.symm,HB2.out⟩
    ·by_cases h3:k=3
     ·subst h3;by_cases g1:p=0
      ·subst g1;by_cases g2:f=0
       ·subst g2;by_cases g3:x=0
        ·subst g3;have HN:=qH (a3_ok);(go_wp2_with(fail));go_roundg (l.length - (r+1))
         case measure=>omega
         case rel=>
          refine⟨r+1,by omega,by go_num,fun j b' hj hb'=>?_,HB1.out⟩;by_cases e:j=r
          ·subst e;rw[HI.out] at hb';rw[←Option.some.inj hb'];exact HN.out
          ·exact HQ.out j b' (by omega) hb'
        ·have g3':=beq_false g3;have HN:=qH (sndAL_no HI.out (a3_no (.inr (.inr g3))));clear g3;(go_wp2_with(fail));go_ret;exact⟨ret_bool HN.out.symm,HB1.out⟩
       ·have g2':=beq_false g2;have HN:=qH (sndAL_no HI.out (a3_no (.inr (.inl g2))));clear g2;(go_wp2_with(fail));go_ret;exact⟨ret_bool HN.out.symm,HB1.out⟩
      ·have g1':=beq_false g1;have HN:=qH (sndAL_no HI.out (a3_no (.inl g1)));clear g1;(go_wp2_with(fail));go_ret;exact⟨ret_bool HN.out.symm,HB1.out⟩
     ·have e1:=beq_false h1;have e2:=beq_false h2;have e3:=beq_false h3;have HN:=qH (sndAL_no HI.out (a_no h1 h2 h3));clear h1 h2 h3;(go_wp2_with(fail));go_ret;exact⟨ret_bool HN.out.symm,HB1.out⟩
  ·have hltI:¬(r:Int)<(l.length:Int):=(by omega);have HN:=qH (sndAL_end fun j b hj=>HQ.out j b (by have:=(List.getElem?_eq_some_iff.1 hj).1;omega) hj);go_wp2;go_ret;exact⟨ret_bool (by rw[HN.out];apply decide_eq_decide.2;omega),HB.out⟩
theorem execRow0 {P:Program} {a:Act} {oi:Oper} {w:World} {ty:TypeId} {x:Operand} (ho:oi.op= .load ty x) (b:Nat) (hx:a.eval x= .pointer (some ⟨b,0,none⟩)) {cs:Array Value} {t:TypeId} (hb:Blk b cs t w) {d:TypeDesc} (hu:P.underlying ty=some d) (hd:d.isRow=true) (hi:(P.info? ty).map (·.size)=some cs.size):(execOp a.eval oi).run P w= .ok (.value (.agg cs)) w:=by
 unfold execOp;simp only[ho,hx,Instr.loadAt,Instr.sureAddr,Sem.run_bind,Sem.run_pure,Result.andThen_ok,run_loadVar_row w b t ty cs (0,0) d hb hu (by cases d<;>first|rfl|(simp[TypeDesc.isRow] at hd)) hi]
theorem execBuildS {a:Act} {oi:Oper} {w:World} {x y:Operand} (ho:oi.op= .build 118 #[(0,x),(1,y)]) (p:Int) (g:Nat→Int) (hx:a.eval x= .int .i64 p) (hy:a.eval y= .agg (hc g)):(execOp a.eval oi).run Tryz.prog w= .ok (.value (.agg (sna ⟨p,g⟩))) w:=by
 have e:(Instr.build 118 #[(0,.int .i64 p),(1,.agg (hc g))]).run Tryz.prog w= .ok (.agg (sna ⟨p,g⟩)) w:=run_build w _ _ _ (builtS p g);unfold execOp;simp only[ho,List.map_toArray,List.map_cons,List.map_nil,hx,hy,Sem.run_bind,e,Result.andThen_ok,Sem.run_pure]
theorem cellsA {W:World} {b o:Nat} {c:Ac} (h:W.rangeAt b o (acl c)):W.cell? ⟨b,o,none⟩=some (.int .i64 c.k)∧W.cell? ⟨b,o+1,none⟩=some (.int .i64 c.p)∧W.cell? ⟨b,o+2,none⟩=some (.int .i64 c.f)∧W.cell? ⟨b,o+3,none⟩=some (.int .u64 c.v):=⟨h 0 _ rfl,h 1 _ rfl,h 2 _ rfl,h 3 _ rfl⟩
theorem kappendWpB {α:Type} (K:Kd α) (ok:K.Ok) {o:Oper} {a:Act} {w:World} {Kt:Act→World→Prop} {Q:Exit→Act→World→Prop} (s x:Operand) (ho:o.op= .call { callee:= .builtin .append,args:=#[s,x],argTypes:=#[K.S,K.S]}) (base:Nat) (v:Value) (l k:List α) (hs:a.eval s=v) (hown:KOwns K base v l w) (u:Value) (hx:a.eval x=u) (hk:KLies K u k w) (hbase:base≤w.heap.size) (hlen:(l.length+k.length)*K.room≤140737488355328) (h:∀v' w',KOwns K base v' (l++k) w'→w.grownBy w' v.ownBlock→Kt (a.put o.dst v') w'):o.wp Tryz.prog a w Kt Q:=by
 obtain⟨i,z,hi,hz,hsz,hby,hc⟩:=ok.info;have hnm:l.length+k.length≤140737488355328:=Nat.le_trans (by have:=Nat.mul_le_mul_left (l.length+k.length) ok.room1;omega) hlen;rcases hk with⟨rfl,rfl⟩|⟨ad,cap,rfl,hcap,hr⟩
 ·have hrun:=run_append_owned_none (P:=Tryz.prog) (w:=w) base K.S o.type K.T i K.n ok.under hi v l.length (K.flat l) hown;have hq:=h v w (by rw[List.append_nil];exact hown) ⟨rfl,rfl,rfl,Nat.le_refl _,fun _ _ _=>rfl⟩;unfold Oper.wp;simp[execOp,ho,resolve,invoke,builtin,hs,hx,hrun,Result.andThen];exact hq
 ·obtain⟨v',w',hr',h2,h3,h4,h5⟩:=run_append_own_at (P:=Tryz.prog) w base K.S o.type K.T i z K.n K.room ok.under hi hz hsz hby hc ok.pos v l.length (K.flat l) hown ad k.length cap (K.flat k) (ok.flat_len k) (KLies.news (.inr ⟨ad,cap,rfl,hcap,hr⟩) ok) (ok.flat_one k) (by unfold maxLen;omega) hlen hbase;unfold Oper.wp execOp;simp only[ho,resolve,invoke,builtin,Sem.run_bind,Sem.run_pure,Result.andThen_ok,List.map_toArray,List.map_cons,List.map_nil,hs,hx,hr'];refine h v' w' ?_ h3;unfold KOwns;rw[List.length_append,K.flat_append];exact h2
theorem kappendWp {α:Type} (K:Kd α) (ok:K.Ok) {o:Oper} {a:Act} {w:World} {Kt:Act→World→Prop} {Q:Exit→Act→World→Prop} (s x:Operand) (ho:o.op= .call { callee:= .builtin .append,args:=#[s,x],argTypes:=#[K.S,K.S]}) (base:Nat) (v:Value) (l k:List α) (hs:a.eval s=v) (hown:KOwns K base v l w) (u:Value) (hx:a.eval x=u) (hk:KLies K u k w) (hbase:base≤w.heap.size) (hlen:l.length+k.length≤1000000) (h:∀v' w',KOwns K base v' (l++k) w'→w.grownBy w' v.ownBlock→Kt (a.put o.dst v') w'):o.wp Tryz.prog a w Kt Q:=kappendWpB K ok s x ho base v l k hs hown u hx hk hbase (ok.light hlen) h
theorem kbuildOneWp {α:Type} (K:Kd α) (ok:K.Ok) (zs:Array Value) (hzs:((Tryz.prog.info? K.T).bind (·.zero)).map (·.cells)=some zs) {o:Oper} {a:Act} {w:World} {Kt:Act→World→Prop} {Q:Exit→Act→World→Prop} (x:Operand) (ho:o.op= .buildSlice K.S 1 #[(0,x)]) (cs:Array Value) (hx:a.eval x= .agg cs) (hsm:1*K.n≤1000) (hf:Instr.fill (fun i'=>some (i'*K.n,K.n)) ((Array.range (1*K.n)).map (zs[· % zs.size]!)) [(0,.agg cs)]=some cs) (h:Kt (a.put o.dst (.slice (some ⟨w.heap.size,0,none⟩) 1 1)) (w.alloc (.cells cs K.T))):o.wp Tryz.prog a w Kt Q:=by
 obtain⟨i,z,hi,hz,hs,hb,hc⟩:=ok.info;have hzc:=zeroOf hzs hi hz;refine wp_buildSlice K.S K.T 1 _ ho cs i z ok.under hi hz ?_ ?_ ?_ h
 ·rw[hs];omega
 ·rw[hs];have:=ok.pos;omega
 ·rw[hs,hzc];have e:((#[(0,x)]:Array (Nat×Operand)).map fun(p:Nat×Operand)=>(p.1,a.eval p.2)).toList=[(0,.agg cs)]:=(by simp[hx]);exact(congrArg (Instr.fill (fun i'=>some (i'*K.n,K.n)) ((Array.range (1*K.n)).map (zs[· % zs.size]!))) e).trans hf
theorem kbuildNoneWp {α:Type} (K:Kd α) (ok:K.Ok) {o:Oper} {a:Act} {w:World} {Kt:Act→World→Prop} {Q:Exit→Act→World→Prop} (ho:o.op= .buildSlice K.S 0 #[]) (h:Kt (a.put o.dst (.slice (some ⟨w.heap.size,0,none⟩) 0 0)) (w.alloc (.cells #[] K.T))):o.wp Tryz.prog a w Kt Q:=by
 obtain⟨i,z,hi,hz,hs,hb,hc⟩:=ok.info;have hr:∀parts:Array (Nat×Value),parts.toList=[]→(Instr.buildSlice K.S 0 parts).run Tryz.prog w= .ok (.slice (some ⟨w.heap.size,0,none⟩) 0 0) (w.alloc (.cells #[] K.T)):=fun parts hp=>(by simp[Instr.buildSlice,run_underlying ok.under,sizeOf,typeInfo,hi,hp,Instr.fill,newRow];congr 2;exact Array.eq_empty_of_size_eq_zero (by simp));unfold Oper.wp execOp;simp only[ho,Sem.run_bind];rw[hr _ (by simp)];exact h
def RunS (w : World) (v : Value) (l : List Ac) (g : Nat → Int) (W : World) : Prop := KLies KA v l W ∧ Blk w.heap.size (hc g) 35 W
theorem RunS.below {w:World} {v:Value} {l:List Ac} {g:Nat→Int} {W W':World} (hb:Below W.heap.size W W') (h:RunS w v l g W):RunS w v l g W':=⟨h.1.below okA hb,h.2.below hb⟩
theorem rrun_none (v:Value) (l:List Ac) (h:Nat→Int) (hlen:l.length≤140737488355328) (hw:WfAL l) (hs:sndAL l=false) (w:World) (hl:KLies KA v l w):Calls Tryz.prog 63 #[v,.agg (hc h)] w (RunRet w [] false):=by
 have HB0:=qH (below1 w (.cells (hc h) 35));have HS:=qH (racts_any v l hlen hw _ (hl.below okA HB0.out));obtain⟨p,cap,rfl⟩:=hl.form;rw[hs] at HS;clear hl hw hs;(go_enter Tryz.func63,Tryz.ntmps63);(go_wp2_with(go_at_call 51;refine HS.out.mono ?_;rintro e w1 ⟨rfl,hw1⟩));have HB:=qH (HB0.out.trans (hw1.mono HB0.out.size));clear hw1 HB0 HS;(go_ret2);exact⟨_,rfl,KOwns.nil _ _,HB.out⟩
theorem RunAt.drew {w W:World} {g:Nat→Int} {out:Value} {L:List Sn} (h:RunAt w g out L W):RunAt w g out L W.drew:=h.below (Below.refl _ _).drew
theorem RunAt.cset {w W:World} {g:Nat→Int} {out:Value} {L:List Sn} (h:RunAt w g out L W) {k:Nat} (hk:k<12) (x:Int):RunAt w (upd g k x) out L (W.setCell ⟨w.heap.size,k,none⟩ (.int .u64 x)):=⟨(heap_setCell_same W w.heap.size k (hc g) 35 (.int .u64 x) h.1).trans (by rw[hc_set g x k hk]),h.2.1.other fun b hb _=>heap_setCell_other W _ b _ (by show b≠w.heap.size;omega),h.2.2.setCell (Nat.le_refl _) _⟩
set_option maxRecDepth 100000 in
set_option maxHeartbeats 4000000 in
theorem rrun_yes (v:Value) (l:List Ac) (h:Nat→Int) (T:List Sn) (B:Bool) (hT:runS h l=T) (hB:hasT l=B) (hlen:l.length≤140737488355328) (hw:WfAL l) (hs:sndAL l=true) (w:World) (hl:KLies KA v l w):Calls Tryz.prog 63 #[v,.agg (hc h)] w (RunRet w T B):=by
 have HB0:=qH (below1 w (.cells (hc h) 35));have HS:=qH (racts_any v l hlen hw _ (hl.below okA HB0.out));rw[hs] at HS;obtain⟨p,cap,rfl⟩:=hl.form;have HL:=qH hl;have HK:=qH hs;have HT:=qH (And.intro hT hB);have hl8:=snd_len hs;clear hl hw hs hT hB;(go_enter Tryz.func63,Tryz.ntmps63);(go_wp2_with(go_at_call 51;refine HS.out.mono ?_;rintro e w1 ⟨rfl,hw1⟩));have HA:=qH (show RunAt w h (.slice none 0 0) [] w1 from⟨(Blk.new w (hc h) 35).below hw1,KOwns.nil _ _,HB0.out.trans (hw1.mono HB0.out.size)⟩);clear hw1 HB0 HS;go_loopw [8,6,7] (fun i out tl wr=>∃(r:Nat) (g:Nat→Int) (L:List Sn) (b:Bool),r≤l.length∧i= .int .i64 r∧tl= .bool b∧L++runS g (l.drop r)=T∧(b||hasT (l.drop r))=B∧L.length≤r∧RunAt w g out L wr) (fun i _ _ _=>(l.length - intOf i).toNat)
 case atStart=>exact⟨0,h,[],false,by omega,rfl,rfl,by simpa using HT.out.1,by simpa using HT.out.2,by simp,HA.out⟩
 case round=>
  clear HA;obtain⟨r,g,L,b,hr,rfl,rfl,h1,h2,h3,hA⟩:=hrel;have HA:=qH hA;have HC:=qH (And.intro h1 (And.intro h2 h3));clear hA h1 h2 h3;by_cases hlt:r<l.length
  ·have hltI:(r:Int)<(l.length:Int):=(by omega);obtain⟨c,hc'⟩:=lt_some hlt;obtain⟨bb,o,rfl,hrg⟩:=(HL.out.below okA HA.out.2.2).at hc';have HI:=qH hc';have HD:=qH (dropAt hc');obtain⟨k0,k1,k2,k3⟩:=cellsA hrg;rcases snd_cases' (snd_mem HK.out hc') with⟨pt,rfl,p1,p2⟩|⟨f,x,rfl,hse⟩|rfl
   ·clear hrg hc' p1 p2;have c0:wr.cell? ⟨bb,o+r*4,none⟩=some (.int .i64 1):=k0;have c1:wr.cell? ⟨bb,o+r*4+1,none⟩=some (.int .i64 pt):=k1;clear k0 k1 k2 k3;(go_upto_region 9 with(fail));have HA1:=qH HA.out.drew;have HS0:=qH (show RunS w (.slice (some ⟨bb,o,none⟩) l.length cap) l g wr.drew from⟨HL.out.below okA HA1.out.2.2,HA1.out.1⟩);clear c0 c1 HA;refine wp_region_held_drew (S:=RunS w (.slice (some ⟨bb,o,none⟩) l.length cap) l g) (by kernel_rfl) HS0.out (fun hS=>?_);clear HS0;generalize wr.drew=W at*;have RS:=qH (Blk.new W (sna ⟨pt,g⟩) 118);have HA2:=qH (HA1.out.below (below1 W (.cells (sna ⟨pt,g⟩) 118)));have HLt:=qH (show w.heap.size+1≤(W.alloc (.cells (sna ⟨pt,g⟩) 118)).heap.size from HA2.out.lt);refine sR 0 hS ?_;refine sR 1 hS ?_;refine sR 2 hS ?_;refine sR 3 hS ?_;refine sR 4 hS ?_;refine sV 5 rfl (fun w hSw=>by have hq:=(cellsA (hSw.1.at' HI.out)).2.1;go_simp<;>with_reducible rfl) hS ?_;refine sV 6 rfl (fun w hSw=>execRow0 rfl _ rfl hSw.2 Tryz.underlying35 rfl (by kernel_rfl)) hS ?_;refine sV 7 rfl (fun w hSw=>execBuildS rfl pt g rfl rfl) hS ?_;refine sC 8 (fun K hK=>?_);refine kbuildOneWp KS okS zS zeroS (.tmp 31) rfl (sna ⟨pt,g⟩) rfl (by decide) (fillS _) ?_;refine hK.out _ _ (RunS.below (below1 _ _) hS) (fun hS=>?_);clear hK K;(try simp only[Act.put,sA,sB,sE]);refine sC 9 (fun K hK=>?_);refine kappendWp KS okS (.tmp 24) (.tmp 32) rfl (w.heap.size+1) u6 L [⟨pt,g⟩] rfl HA2.out.2.1 _ rfl (RS.out.klies okS (sna_flat _)) HLt.out (by have:=HC.out.2.2;simp;omega) (fun v' w' ho hg=>?_);have HA3:=qH (HA2.out.grown ho hg);clear ho hg HA2 HA1 RS HLt;refine hK.out _ _ (show RunS w (.slice (some ⟨bb,o,none⟩) l.length cap) l g w' from⟨HL.out.below okA HA3.out.2.2,HA3.out.1⟩) (fun hS=>?_);clear hK K;(try simp only[Act.put,sA,sB,sE]);refine sR 10 hS ?_;refine sD ?_;obtain⟨k0,_,_,_⟩:=cellsA ((HL.out.below okA HA3.out.2.2).at' HI.out);have c0:w'.cell? ⟨bb,o+r*4,none⟩=some (.int .i64 1):=k0;clear k0;(go_upto_region 12 with(fail));cases b
    ·(go_wp2_with(fail));go_roundw
     case rel=>
      refine⟨r+1,g,L++[⟨pt,g⟩],false,by omega,by go_num,rfl,?_,?_,by have:=HC.out.2.2;simp;omega,HA3.out⟩
      ·have e:=HC.out.1;rw[HD.out] at e;simpa [runS,stepS,stepH] using e
      ·have e:=HC.out.2.1;rw[HD.out] at e;simpa [hasT] using e
     case measure=>simp[intOf];omega
    ·(go_wp2_with(fail));go_roundw
     case rel=>
      refine⟨r+1,g,L++[⟨pt,g⟩],true,by omega,by go_num,rfl,?_,?_,by have:=HC.out.2.2;simp;omega,HA3.out⟩
      ·have e:=HC.out.1;rw[HD.out] at e;simpa [runS,stepS,stepH] using e
      ·have e:=HC.out.2.1;rw[HD.out] at e;simpa [hasT] using e
     case measure=>simp[intOf];omega
   ·obtain⟨n,rfl,hn,hf⟩:=setE_zero hse;clear hrg hc' hse hf;have c0:wr.cell? ⟨bb,o+r*4,none⟩=some (.int .i64 2):=k0;have c2:wr.cell? ⟨bb,o+r*4+2,none⟩=some (.int .i64 n):=k2;have c3:wr.cell? ⟨bb,o+r*4+3,none⟩=some (.int .u64 x):=k3;clear k0 k1 k2 k3;(go_upto_region 11 with(fail));refine regionTail 11 (by kernel_rfl) (by kernel_rfl) (fun W hW=>?_);have HA1:=qH (show RunAt w g u6 L W by rw[hW.out];exact HA.out.drew);have d2:W.cell? ⟨bb,o+r*4+2,none⟩=some (.int .i64 n):=(by rw[hW.out];exact c2);have d3:W.cell? ⟨bb,o+r*4+3,none⟩=some (.int .u64 x):=(by rw[hW.out];exact c3);clear hW c0 c2 c3 HA;have e1:=cell_row HA1.out.1 hn;have f1:=frozen_of_row _ w.heap.size n _ _ HA1.out.1;have hnI:(n:Int)<12:=(by omega);simp only[List.take_succ_cons,List.take_zero,List.drop_succ_cons,List.drop_zero];(repeat still_step);refine wpStill_nil ?_;(go_upto_region 12 with(fail));have HA3:=qH (HA1.out.cset hn x);clear HA1 d2 d3 e1 f1;generalize W.setCell ⟨w.heap.size,n,none⟩ (.int .u64 x)=W3 at*;obtain⟨k0,_,_,_⟩:=cellsA ((HL.out.below okA HA3.out.2.2).at' HI.out);have c0:W3.cell? ⟨bb,o+r*4,none⟩=some (.int .i64 2):=k0;clear k0;cases b
    ·(go_wp2_with(fail));go_roundw
     case rel=>
      refine⟨r+1,upd g n x,L,false,by omega,by go_num,rfl,?_,?_,by have:=HC.out.2.2;simp;omega,HA3.out⟩
      ·have e:=HC.out.1;rw[HD.out] at e;simpa [runS,stepS,stepH] using e
      ·have e:=HC.out.2.1;rw[HD.out] at e;simpa [hasT] using e
     case measure=>simp[intOf];omega
    ·(go_wp2_with(fail));go_roundw
     case rel=>
      refine⟨r+1,upd g n x,L,true,by omega,by go_num,rfl,?_,?_,by have:=HC.out.2.2;simp;omega,HA3.out⟩
      ·have e:=HC.out.1;rw[HD.out] at e;simpa [runS,stepS,stepH] using e
      ·have e:=HC.out.2.1;rw[HD.out] at e;simpa [hasT] using e
     case measure=>simp[intOf];omega
   ·clear hrg hc';have c0:wr.cell? ⟨bb,o+r*4,none⟩=some (.int .i64 3):=k0;clear k0 k1 k2 k3;have HA3:=HA;clear HA;(go_upto_region 12 with(fail));cases b
    ·(go_wp2_with(fail));go_roundw
     case rel=>
      refine⟨r+1,g,L,true,by omega,by go_num,rfl,?_,?_,by have:=HC.out.2.2;simp;omega,HA3.out⟩
      ·have e:=HC.out.1;rw[HD.out] at e;simpa [runS,stepS,stepH] using e
      ·have e:=HC.out.2.1;rw[HD.out] at e;simpa [hasT] using e
     case measure=>simp[intOf];omega
    ·(go_wp2_with(fail));go_roundw
     case rel=>
      refine⟨r+1,g,L,true,by omega,by go_num,rfl,?_,?_,by have:=HC.out.2.2;simp;omega,HA3.out⟩
      ·have e:=HC.out.1;rw[HD.out] at e;simpa [runS,stepS,stepH] using e
      ·have e:=HC.out.2.1;rw[HD.out] at e;simpa [hasT] using e
     case measure=>simp[intOf];omega
  ·have hltI:¬(r:Int)<(l.length:Int):=(by omega);have e:l.drop r=[]:=List.drop_eq_nil_of_le (by omega);have HC':=HC.out;rw[e] at HC';have e1:L=T:=(by simpa [runS] using HC'.1);have e2:b=B:=(by simpa [hasT] using HC'.2.1);subst e1 e2;have HF:=qH (HA.out.2.1.mono (show w.heap.size≤w.heap.size+1 by omega));have HB:=qH HA.out.2.2;obtain⟨p',cap',rfl⟩:=HA.out.2.1.form;clear HC' e HA HC;go_wp2;(go_ret2);exact⟨_,rfl,HF.out,HB.out⟩
theorem rrun_any (v:Value) (l:List Ac) (h:Nat→Int) (hlen:l.length≤140737488355328) (hw:WfAL l) (w:World) (hl:KLies KA v l w):Calls Tryz.prog 63 #[v,.agg (hc h)] w (RunRet w (runV l h) (runB l)):=by
 unfold runV runB;cases hs:sndAL l
 ·exact rrun_none v l h hlen hw hs w hl
 ·exact rrun_yes v l h _ _ rfl rfl hlen hw hs w hl
def TwoS (v1 v2 : Value) (l k : List Ac) (W : World) : Prop := KLies KA v1 l W ∧ KLies KA v2 k W
theorem TwoS.below {v1 v2:Value} {l k:List Ac} {W W':World} (hb:Below W.heap.size W W') (h:TwoS v1 v2 l k W):TwoS v1 v2 l k W':=⟨h.1.below okA hb,h.2.below okA hb⟩
theorem ne_len {a b:Nat} (h:a≠b):((a:Int) != (b:Int))=true:=by simp;omega
theorem eq_len {a b:Nat} (h:a=b):((a:Int) != (b:Int))=false:=by simp;omega
set_option maxRecDepth 100000 in
set_option maxHeartbeats 2000000 in
theorem equal_any (v1 v2:Value) (l k:List Ac) (hk:k.length≤140737488355328) (w0:World) (h1:KLies KA v1 l w0) (h2:KLies KA v2 k w0):Calls Tryz.prog 158 #[v1,v2] w0 fun e w'=>e= .returned (.bool (aEqL l k))∧Below w0.heap.size w0 w':=by
 obtain⟨p1,c1,rfl⟩:=h1.form;obtain⟨p2,c2,rfl⟩:=h2.form;have HS:=qH (show TwoS (.slice p1 l.length c1) (.slice p2 k.length c2) l k w0 from⟨h1,h2⟩);clear h1 h2;by_cases hlk:l.length=k.length
 ·have hd:=eq_len hlk;have HLK:=qH hlk;clear hlk;(go_enter Tryz.func158,Tryz.ntmps158);(go_wp2_with fail);clear hd;go_loopg [13] l.length (fun kk i wr=>∃r:Nat,r+kk=l.length∧i= .int .i64 r∧(∀(j:Nat) a b,j<r→l[j]? =some a→k[j]? =some b→aEq a b=true)∧Below w0.heap.size w0 wr)
  case atStart=>exact⟨0,by omega,rfl,fun j _ _ h=>absurd h (by omega),Below.refl _ _⟩
  case round=>
   obtain⟨r,hr,rfl,hq,hb⟩:=hrel;have HQ:=qH hq;have HB:=qH hb;clear hq hb;by_cases hlt:r<l.length
   ·have hltI:(r:Int)<(l.length:Int):=(by omega);have hltK:(r:Int)<(k.length:Int):=(by have:=HLK.out;omega);obtain⟨c,hc'⟩:=lt_some hlt;obtain⟨d,hd'⟩:=lt_some (show r<k.length by have:=HLK.out;omega);have HS1:=qH (TwoS.below HB.out HS.out);obtain⟨b1,o1,rfl,_⟩:=HS1.out.1.at hc';obtain⟨b2,o2,rfl,_⟩:=HS1.out.2.at hd';have HC:=qH (And.intro hc' hd');clear hc' hd';have hdI:decide ((r:Int)<(l.length:Int))=true:=decide_eq_true hltI;(go_upto_region 6 with(fail));refine wp_region_held_drew (S:=TwoS (.slice (some ⟨b1,o1,none⟩) l.length c1) (.slice (some ⟨b2,o2,none⟩) k.length c2) l k) (by kernel_rfl) (TwoS.below (Below.refl _ _).drew HS1.out) (fun hS=>?_);have heq:∀w,(Op.equalIn 10000 83 (.agg (acl c).toArray) (.agg (acl d).toArray)).run Tryz.prog w= .ok (aEq c d) w:=fun w=>eql_act c d w;have hgd:=guardAct;have HB1:=qH HB.out.drew;clear HB HS1;generalize wr.drew=W at*;generalize hy:aEq c d=y at*;refine sR 0 hS ?_;refine sR 1 hS ?_;refine sR 2 hS ?_;refine sV 3 rfl (fun w hSw=>execRow rfl b1 (o1+r*4) rfl (acl c) _ (hSw.1.at' HC.out.1) Tryz.underlying83 rfl infoA) hS ?_;refine sR 4 hS ?_;refine sR 5 hS ?_;refine sR 6 hS ?_;refine sV 7 rfl (fun w hSw=>execRow rfl b2 (o2+r*4) rfl (acl d) _ (hSw.2.at' HC.out.2) Tryz.underlying83 rfl infoA) hS ?_;refine sR 8 hS ?_;refine sD ?_;clear hS heq hgd hdI;cases y
    ·have HN:=qH (aEqL_ne HC.out.1 HC.out.2 hy);clear hy;(go_wp2_with fail);go_ret;exact⟨ret_bool HN.out.symm,HB1.out⟩
    ·have HY:=qH hy;clear hy;(go_wp2_with fail);go_roundg (l.length - (r+1))
     case measure=>omega
     case rel=>
      refine⟨r+1,by omega,by go_num,fun j a b hj ha hb=>?_,HB1.out⟩;by_cases e:j=r
      ·subst e;rw[HC.out.1] at ha;rw[HC.out.2] at hb;rw[←Option.some.inj ha,←Option.some.inj hb];exact HY.out
      ·exact HQ.out j a b (by omega) ha hb
   ·have hltI:¬(r:Int)<(l.length:Int):=(by omega);have HN:=qH (aEqL_yes HLK.out fun j a b ha hb=>HQ.out j a b (by have:=(List.getElem?_eq_some_iff.1 ha).1;omega) ha hb);(go_wp2_with fail);go_ret;exact⟨ret_bool HN.out.symm,HB.out⟩
 ·have hd:=ne_len hlk;have HN:=qH (aEqL_len hlk);clear hlk;(go_enter Tryz.func158,Tryz.ntmps158);(go_wp2_with fail);go_ret;exact⟨ret_bool HN.out.symm,Below.refl _ _⟩
set_option maxRecDepth 100000 in
set_option maxHeartbeats 2000000 in
theorem rsameA_any (v1 v2:Value) (l k:List Ac) (hk:k.length≤140737488355328) (w0:World) (h1:KLies KA v1 l w0) (h2:KLies KA v2 k w0):Calls Tryz.prog 66 #[v1,v2] w0 fun e w'=>e= .returned (.bool (aEqL l k))∧Below w0.heap.size w0 w':=by
 obtain⟨p1,c1,rfl⟩:=h1.form;obtain⟨p2,c2,rfl⟩:=h2.form;have HS:=qH (show TwoS (.slice p1 l.length c1) (.slice p2 k.length c2) l k w0 from⟨h1,h2⟩);clear h1 h2;by_cases hlk:l.length=k.length
 ·have hd:=eq_len hlk;have HLK:=qH hlk;clear hlk;(go_enter Tryz.func66,Tryz.ntmps66);(go_wp2_with fail);clear hd;go_loopg [5] l.length (fun kk i wr=>∃r:Nat,r+kk=l.length∧i= .int .i64 r∧(∀(j:Nat) a b,j<r→l[j]? =some a→k[j]? =some b→aEq a b=true)∧Below w0.heap.size w0 wr)
  case atStart=>exact⟨0,by omega,rfl,fun j _ _ h=>absurd h (by omega),Below.refl _ _⟩
  case round=>
   obtain⟨r,hr,rfl,hq,hb⟩:=hrel;have HQ:=qH hq;have HB:=qH hb;clear hq hb;by_cases hlt:r<l.length
   ·have hltI:(r:Int)<(l.length:Int):=(by omega);have hltK:(r:Int)<(k.length:Int):=(by have:=HLK.out;omega);obtain⟨c,hc'⟩:=lt_some hlt;obtain⟨d,hd'⟩:=lt_some (show r<k.length by have:=HLK.out;omega);have HS1:=qH (TwoS.below HB.out HS.out);obtain⟨b1,o1,rfl,_⟩:=HS1.out.1.at hc';obtain⟨b2,o2,rfl,_⟩:=HS1.out.2.at hd';have HC:=qH (And.intro hc' hd');clear hc' hd';have hdI:decide ((r:Int)<(l.length:Int))=true:=decide_eq_true hltI;(go_upto_region 6 with(fail));refine wp_region_held_drew (S:=TwoS (.slice (some ⟨b1,o1,none⟩) l.length c1) (.slice (some ⟨b2,o2,none⟩) k.length c2) l k) (by kernel_rfl) (TwoS.below (Below.refl _ _).drew HS1.out) (fun hS=>?_);have heq:∀w,(Op.equalIn 10000 83 (.agg (acl c).toArray) (.agg (acl d).toArray)).run Tryz.prog w= .ok (aEq c d) w:=fun w=>eql_act c d w;have hgd:=guardAct;have HB1:=qH HB.out.drew;clear HB HS1;generalize wr.drew=W at*;generalize hy:aEq c d=y at*;refine sR 0 hS ?_;refine sR 1 hS ?_;refine sR 2 hS ?_;refine sV 3 rfl (fun w hSw=>execRow rfl b1 (o1+r*4) rfl (acl c) _ (hSw.1.at' HC.out.1) Tryz.underlying83 rfl infoA) hS ?_;refine sR 4 hS ?_;refine sR 5 hS ?_;refine sR 6 hS ?_;refine sV 7 rfl (fun w hSw=>execRow rfl b2 (o2+r*4) rfl (acl d) _ (hSw.2.at' HC.out.2) Tryz.underlying83 rfl infoA) hS ?_;refine sR 8 hS ?_;refine sD ?_;clear hS heq hgd hdI;cases y
    ·have HN:=qH (aEqL_ne HC.out.1 HC.out.2 hy);clear hy;(go_wp2_with fail);go_ret;exact⟨ret_bool HN.out.symm,HB1.out⟩
    ·have HY:=qH hy;clear hy;(go_wp2_with fail);go_roundg (l.length - (r+1))
     case measure=>omega
     case rel=>
      refine⟨r+1,by omega,by go_num,fun j a b hj ha hb=>?_,HB1.out⟩;by_cases e:j=r
      ·subst e;rw[HC.out.1] at ha;rw[HC.out.2] at hb;rw[←Option.some.inj ha,←Option.some.inj hb];exact HY.out
      ·exact HQ.out j a b (by omega) ha hb
   ·have hltI:¬(r:Int)<(l.length:Int):=(by omega);have HN:=qH (aEqL_yes HLK.out fun j a b ha hb=>HQ.out j a b (by have:=(List.getElem?_eq_some_iff.1 ha).1;omega) ha hb);(go_wp2_with fail);go_ret;exact⟨ret_bool HN.out.symm,HB.out⟩
 ·have hd:=ne_len hlk;have HN:=qH (aEqL_len hlk);clear hlk;(go_enter Tryz.func66,Tryz.ntmps66);(go_wp2_with fail);go_ret;exact⟨ret_bool HN.out.symm,Below.refl _ _⟩
theorem asame_any (v1 v2:Value) (l k:List Ac) (hk:k.length≤140737488355328) (w0:World) (h1:KLies KA v1 l w0) (h2:KLies KA v2 k w0):Calls Tryz.prog 150 #[v1,v2] w0 fun e w'=>e= .returned (.bool (aEqL l k))∧Below w0.heap.size w0 w':=by
 have HE:=qH (equal_any v1 v2 l k hk w0 h1 h2);obtain⟨p1,c1,rfl⟩:=h1.form;obtain⟨p2,c2,rfl⟩:=h2.form;clear h1 h2;(go_enter Tryz.func150,Tryz.ntmps150);(go_wp2_with(go_at_call 158;refine HE.out.mono ?_;rintro e w1 ⟨rfl,hw1⟩));go_ret;exact⟨rfl,hw1⟩
end Go.Proofs.YtomnpfbebimpkaaGreatDoor
