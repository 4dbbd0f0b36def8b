/- Several of my texts as one: RuleMath, RuleVal, RulePr, RulePr2, RowAt, RuleCpy, RuleCpy2, RuleTab, RuleOwnM. -/
import Derived.Test.YtomnpfbebimpkaaGreatDoorProg
import Derived.Test.YtomnpfbebimpkaaGreatDoorPackCube
import Derived.Test.YtomnpfbebimpkaaGreatDoorPackAct
import Derived.Test.YtomnpfbebimpkaaGreatDoorPackRef
import Derived.OwnWalk
import Derived.Deep.MidRow
import Derived.Test.YtomnpfbebimpkaaGreatDoorSq
/-
  Lists kept sorted by an order, one element a key, the last that came: no word of any program.
-/
namespace Go.Proofs.YtomnpfbebimpkaaGreatDoor
set_option maxRecDepth 20000
section
variable {α : Type}
structure Ordd (ord : α → α → Int) : Prop where
  neg : ∀ a b, ord b a = -ord a b
  trans : ∀ a b c, ord a b ≤ 0 → ord b c ≤ 0 → ord a c ≤ 0
variable {ord : α → α → Int}
theorem Ordd.refl (O:Ordd ord) (a:α):ord a a=0:=by have:=O.neg a a;omega
theorem Ordd.lt_of_lt_le (O:Ordd ord) {a b c:α} (h1:ord a b<0) (h2:ord b c≤0):ord a c<0:=by
 have h:=O.trans a b c (by omega) h2;have n1:=O.neg a c;have n2:=O.neg a b;by_cases e:ord a c<0
 ·exact e
 ·exfalso;have:=O.trans b c a h2 (by omega);omega
theorem Ordd.lt_of_le_lt (O:Ordd ord) {a b c:α} (h1:ord a b≤0) (h2:ord b c<0):ord a c<0:=by
 have h:=O.trans a b c h1 (by omega);have n1:=O.neg a c;have n2:=O.neg b c;by_cases e:ord a c<0
 ·exact e
 ·exfalso;have:=O.trans c a b (by omega) h1;omega
theorem Ordd.lt_trans (O:Ordd ord) {a b c:α} (h1:ord a b<0) (h2:ord b c<0):ord a c<0:=O.lt_of_lt_le h1 (by omega)
theorem Ordd.zero_symm (O:Ordd ord) {a b:α} (h:ord a b=0):ord b a=0:=by have:=O.neg a b;omega
theorem Ordd.zero_trans (O:Ordd ord) {a b c:α} (h1:ord a b=0) (h2:ord b c=0):ord a c=0:=by
 have i1:=O.trans a b c (by omega) (by omega);have i2:=O.trans c b a (by have:=O.neg b c;omega) (by have:=O.neg a b;omega);have:=O.neg a c;omega
def Srt (ord : α → α → Int) (l : List α) : Prop := l.Pairwise fun a b => ord a b < 0
def ins (ord : α → α → Int) (x : α) : List α → List α
  | [] => [x]
  | y :: l => if ord y x < 0 then y :: ins ord x l else if ord y x = 0 then x :: l else x :: y :: l
def insAll (ord : α → α → Int) (acc l : List α) : List α := l.foldl (fun acc x => ins ord x acc) acc
def srtL (ord : α → α → Int) (l : List α) : List α := insAll ord [] l
theorem insAll_cons (acc l:List α) (x:α):insAll ord acc (x::l)=insAll ord (ins ord x acc) l:=rfl
theorem insAll_append (acc l k:List α):insAll ord acc (l++k)=insAll ord (insAll ord acc l) k:=by simp[insAll]
theorem srtL_snoc (l:List α) (x:α):srtL ord (l++[x])=ins ord x (srtL ord l):=by unfold srtL;rw[insAll_append];rfl
theorem ins_mem (O:Ordd ord) (x:α):∀(l:List α),Srt ord l→∀z,z∈ins ord x l↔z=x∨(z∈l∧ord z x≠0)
 |[],_,z=>by simp[ins]
 |y::l,hs,z=>by
  have hs':=List.pairwise_cons.1 hs;have hx:∀w,w∈l→ord y w<0:=hs'.1;unfold ins;split
  ·rename_i h;rw[List.mem_cons,ins_mem O x l hs'.2,List.mem_cons];constructor
   ·rintro(rfl|rfl|⟨h1,h2⟩)
    ·exact .inr ⟨.inl rfl,by omega⟩
    ·exact .inl rfl
    ·exact .inr ⟨.inr h1,h2⟩
   ·rintro(rfl|⟨rfl|h1,h2⟩)
    ·exact .inr (.inl rfl)
    ·exact .inl rfl
    ·exact .inr (.inr ⟨h1,h2⟩)
  ·split
   ·rename_i h0 h;rw[List.mem_cons,List.mem_cons];constructor
    ·rintro(rfl|h1)
     ·exact .inl rfl
     ·refine .inr ⟨.inr h1,?_⟩;have:=O.lt_of_le_lt (a:=x) (b:=y) (c:=z) (by have:=O.neg y x;omega) (hx z h1);have:=O.neg x z;omega
    ·rintro(rfl|⟨rfl|h1,h2⟩)
     ·exact .inl rfl
     ·exact absurd h h2
     ·exact .inr h1
   ·rename_i h0 h;rw[List.mem_cons,List.mem_cons];have hxy:ord x y<0:=(by have:=O.neg y x;omega);constructor
    ·rintro(rfl|rfl|h1)
     ·exact .inl rfl
     ·exact .inr ⟨.inl rfl,h⟩
     ·refine .inr ⟨.inr h1,?_⟩;have:=O.lt_trans hxy (hx z h1);have:=O.neg x z;omega
    ·rintro(rfl|⟨h1,h2⟩)
     ·exact .inl rfl
     ·exact .inr h1
theorem ins_srt (O:Ordd ord) (x:α):∀(l:List α),Srt ord l→Srt ord (ins ord x l)
 |[],_=>by simp[ins,Srt]
 |y::l,hs=>by
  have hs':=List.pairwise_cons.1 hs;unfold ins;split
  ·rename_i h;refine List.pairwise_cons.2 ⟨fun z hz=>?_,ins_srt O x l hs'.2⟩;rcases(ins_mem O x l hs'.2 z).1 hz with rfl|⟨h1,_⟩
   ·exact h
   ·exact hs'.1 z h1
  ·split
   ·rename_i h0 h;exact List.pairwise_cons.2 ⟨fun z hz=>O.lt_of_le_lt (b:=y) (by have:=O.neg y x;omega) (hs'.1 z hz),hs'.2⟩
   ·rename_i h0 h;have hxy:ord x y<0:=(by have:=O.neg y x;omega);refine List.pairwise_cons.2 ⟨fun z hz=>?_,hs⟩;rcases List.mem_cons.1 hz with rfl|hz
    ·exact hxy
    ·exact O.lt_trans hxy (hs'.1 z hz)
theorem insAll_srt (O:Ordd ord):∀(l acc:List α),Srt ord acc→Srt ord (insAll ord acc l)
 |[],_,h=>h
 |x::l,acc,h=>insAll_srt O l _ (ins_srt O x acc h)
theorem srtL_srt (O:Ordd ord) (l:List α):Srt ord (srtL ord l):=insAll_srt O l [] (by simp[Srt])
theorem ins_end:∀(l:List α) (x:α),(∀y∈l,ord y x<0)→ins ord x l=l++[x]
 |[],_,_=>rfl
 |y::l,x,h=>by unfold ins;rw[if_pos (h y (by simp)),ins_end l x fun z hz=>h z (by simp[hz])];rfl
theorem insAll_end:∀(l acc:List α),Srt ord (acc++l)→insAll ord acc l=acc++l
 |[],acc,_=>by simp[insAll]
 |x::l,acc,h=>by have hp:=List.pairwise_append.1 h;rw[insAll_cons,ins_end acc x fun y hy=>hp.2.2 y hy x (by simp),insAll_end l (acc++[x]) (by simpa using h)];simp
theorem srtL_self {l:List α} (h:Srt ord l):srtL ord l=l:=by unfold srtL;rw[insAll_end l [] (by simpa using h)];rfl
def Lst (ord : α → α → Int) (z : α) (l : List α) : Prop := ∃ l1 l2, l = l1 ++ z :: l2 ∧ ∀ y ∈ l2, ord z y ≠ 0
theorem lst_nil (z:α):¬Lst ord z []:=by
 rintro⟨l1,l2,h,_⟩;simp at h
theorem lst_append (z:α) (l k:List α):Lst ord z (l++k)↔Lst ord z k∨(Lst ord z l∧∀y∈k,ord z y≠0):=by
 constructor
 ·rintro⟨l1,l2,h,hy⟩;rcases List.append_eq_append_iff.1 h with⟨m,rfl,h2⟩|⟨m,rfl,h2⟩
  ·exact .inl ⟨m,l2,h2,hy⟩
  ·cases m with
   |nil=>exact .inl ⟨[],l2,by simpa using h2.symm,hy⟩
   |cons w m=>simp only[List.cons_append,List.cons.injEq] at h2;obtain⟨rfl,rfl⟩:=h2;exact .inr ⟨⟨l1,m,rfl,fun y hm=>hy y (by simp[hm])⟩,fun y hk=>hy y (by simp[hk])⟩
 ·rintro(⟨l1,l2,rfl,hy⟩|⟨⟨l1,l2,rfl,hy⟩,hk⟩)
  ·exact⟨l++l1,l2,by simp,hy⟩
  ·refine⟨l1,l2++k,by simp,fun y h=>?_⟩;rcases List.mem_append.1 h with h|h
   ·exact hy y h
   ·exact hk y h
theorem lst_one (z x:α):Lst ord z [x]↔z=x:=by
 constructor
 ·rintro⟨l1,l2,h,_⟩;have hl:=congrArg List.length h;simp only[List.length_cons,List.length_nil,List.length_append] at hl;have e1:l1=[]:=List.length_eq_zero_iff.1 (by omega);subst e1;simp only[List.nil_append,List.cons.injEq] at h;exact h.1.symm
 ·rintro rfl;exact⟨[],[],rfl,fun y h=>by cases h⟩
theorem srtL_mem (O:Ordd ord) (z:α):∀(l:List α),z∈srtL ord l↔Lst ord z l:=by
 intro l;have key:∀n (l:List α),l.length=n→(z∈srtL ord l↔Lst ord z l):=by
  intro n;induction n with
  |zero=>intro l hl;rw[List.length_eq_zero_iff.1 hl];exact⟨fun h=>(by cases h),fun h=>absurd h (lst_nil z)⟩
  |succ n ih=>intro l hl;obtain⟨k,x,rfl⟩:∃k x,l=k++[x]:=⟨l.dropLast,l.getLast (by intro e;rw[e] at hl;simp at hl),(List.dropLast_concat_getLast _).symm⟩;have hk:k.length=n:=(by simpa using hl);rw[srtL_snoc,ins_mem O x _ (srtL_srt O k),ih k hk,lst_append,lst_one];simp
 exact key _ l rfl
theorem srtL_key (O:Ordd ord):∀(l:List α) (y:α),y∈l→∃z,z∈srtL ord l∧ord z y=0:=by
 intro l;have key:∀n (l:List α),l.length=n→∀y,y∈l→∃z,z∈srtL ord l∧ord z y=0:=by
  intro n;induction n with
  |zero=>intro l hl y hy;rw[List.length_eq_zero_iff.1 hl] at hy;cases hy
  |succ n ih=>
   intro l hl y hy;obtain⟨k,x,rfl⟩:∃k x,l=k++[x]:=⟨l.dropLast,l.getLast (by intro e;rw[e] at hl;simp at hl),(List.dropLast_concat_getLast _).symm⟩;have hk:k.length=n:=(by simpa using hl);rw[srtL_snoc];by_cases e:ord x y=0
   ·exact⟨x,(ins_mem O x _ (srtL_srt O k) x).2 (.inl rfl),e⟩
   ·rcases List.mem_append.1 hy with h|h
    ·obtain⟨z,hz,h0⟩:=ih k hk y h;refine⟨z,(ins_mem O x _ (srtL_srt O k) z).2 (.inr ⟨hz,fun e2=>e (O.zero_trans (O.zero_symm e2) h0)⟩),h0⟩
    ·simp only[List.mem_cons,List.not_mem_nil,or_false] at h;subst h;exact absurd (O.refl _) e
 exact key _ l rfl
theorem lst_mem {z:α} {l:List α} (h:Lst ord z l):z∈l:=by
 obtain⟨l1,l2,rfl,_⟩:=h;simp
theorem ins_len (x:α):∀l:List α,(ins ord x l).length≤l.length+1
 |[]=>by simp[ins]
 |y::l=>by
  unfold ins;split
  ·have:=ins_len x l;simp;omega
  ·split<;>simp
theorem insAll_len:∀(l acc:List α),(insAll ord acc l).length≤acc.length+l.length
 |[],acc=>by simp[insAll]
 |x::l,acc=>by have h1:=insAll_len l (ins ord x acc);have h2:=ins_len (ord:=ord) x acc;rw[insAll_cons,List.length_cons];omega
theorem srtL_len (l:List α):(srtL ord l).length≤l.length:=by have:=insAll_len (ord:=ord) l [];simpa [srtL] using this
theorem srtL_sub (O:Ordd ord) {l:List α} {z:α} (h:z∈srtL ord l):z∈l:=lst_mem ((srtL_mem O z l).1 h)
end
open Go.RowKit
structure Ru where
  m : Nat → Int
  p : Int
  acts : List Ac
  idle : Int
  hard : Int
  owner : Int
  hits : Int
  quiet : Int
  age : Int
structure Rm where
  u : Ru
  q : Option Addr
  n : Nat
  c : Nat
def rtl (r : Rm) : List Value := [.int .i64 r.u.p, .slice r.q r.n r.c, .int .i64 r.u.idle, .int .i64 r.u.hard, .int .i64 r.u.owner, .int .i64 r.u.hits, .int .i64 r.u.quiet, .int .i64 r.u.age]
def rcl (r : Rm) : List Value := cl r.u.m ++ rtl r
def rca (r : Rm) : Array Value := (rcl r).toArray
abbrev KR : Kd Rm := ⟨88, 27, 32, 272, rcl⟩
theorem okR:KR.Ok where
 pos:=by decide
 len:=fun _=>rfl
 one:=fun a u hu=>by
  rcases List.mem_append.1 (show u∈cl a.u.m++rtl a from hu) with h|h
  ·simp only[cl,List.mem_map] at h;obtain⟨_,_,rfl⟩:=h;rfl
  ·simp only[rtl,List.mem_cons,List.not_mem_nil,or_false] at h;rcases h with rfl|rfl|rfl|rfl|rfl|rfl|rfl|rfl<;>rfl
 under:=Tryz.underlying27
 info:=infoOf (by kernel_rfl) (by kernel_rfl) (by kernel_rfl)
 small:=by decide
 room1:=by decide
theorem rca_one (r:Rm):(rca r).all (·.oneCell')=true:=by
 rw[Array.all_eq_true'];intro x hx;exact okR.one r x (by simpa [rca] using hx)
def I64 (n : Int) : Prop := -9223372036854775808 ≤ n ∧ n ≤ 9223372036854775807
structure WfR (u : Ru) : Prop where
  m : Wf u.m
  a : WfAL u.acts
  room : u.acts.length * 32 ≤ 140737488355328
  nums : I64 u.p ∧ I64 u.idle ∧ I64 u.hard ∧ I64 u.owner ∧ I64 u.hits ∧ I64 u.quiet ∧ I64 u.age
theorem WfR.len {u:Ru} (h:WfR u):u.acts.length≤140737488355328:=by have:=h.room;omega
theorem WfR.m0 {u:Ru} (h:WfR u):∀j,0≤u.m j:=fun j=>(h.m j).1
def InA (r : Rm) (W : World) : Prop := KLies KA (.slice r.q r.n r.c) r.u.acts W
def RLies (v : Value) (l : List Rm) (W : World) : Prop := KLies KR v l W ∧ ∀ r ∈ l, InA r W
def WfRL (l : List Rm) : Prop := ∀ r ∈ l, WfR r.u
section
variable {W W' : World} {r : Rm} {v : Value} {l : List Rm} {b o : Nat} {t : TypeId}
theorem InA.below (h:InA r W) (hb:Below W.heap.size W W'):InA r W':=KLies.below h okA hb
theorem RLies.below (h:RLies v l W) (hb:Below W.heap.size W W'):RLies v l W':=⟨h.1.below okR hb,fun r hr=>(h.2 r hr).below hb⟩
theorem WfRL.at (h:WfRL l) {i:Nat} (hi:l[i]? =some r):WfR r.u:=h _ (List.mem_of_getElem? hi)
theorem RLies.acts (h:RLies v l W) {i:Nat} (hi:l[i]? =some r):InA r W:=h.2 _ (List.mem_of_getElem? hi)
theorem rcl_lt (r:Rm) {j:Nat} {x:Value} (h:(cl r.u.m)[j]? =some x):(rcl r)[j]? =some x:=by
 unfold rcl;rw[List.getElem?_append_left (List.getElem?_eq_some_iff.1 h).1];exact h
theorem rcl_ge (r:Rm) (j:Nat):(rcl r)[24+j]? =(rtl r)[j]?:=by
 unfold rcl;rw[List.getElem?_append_right (by simp[cl])];simp[cl]
structure CellsR (W : World) (b o : Nat) (r : Rm) : Prop where
  m : W.rangeAt b o (cl r.u.m)
  p : W.cell? ⟨b, o + 24, none⟩ = some (.int .i64 r.u.p)
  s : W.cell? ⟨b, o + 25, none⟩ = some (.slice r.q r.n r.c)
  idle : W.cell? ⟨b, o + 26, none⟩ = some (.int .i64 r.u.idle)
  hard : W.cell? ⟨b, o + 27, none⟩ = some (.int .i64 r.u.hard)
  owner : W.cell? ⟨b, o + 28, none⟩ = some (.int .i64 r.u.owner)
  hits : W.cell? ⟨b, o + 29, none⟩ = some (.int .i64 r.u.hits)
  quiet : W.cell? ⟨b, o + 30, none⟩ = some (.int .i64 r.u.quiet)
  age : W.cell? ⟨b, o + 31, none⟩ = some (.int .i64 r.u.age)
theorem cellsR_mid (h:W.rangeAt b o (rcl r)):CellsR W b o r where
 m:=fun j x hx=>h j x (rcl_lt r hx)
 p:=h 24 _ (rcl_ge r 0)
 s:=h 25 _ (rcl_ge r 1)
 idle:=h 26 _ (rcl_ge r 2)
 hard:=h 27 _ (rcl_ge r 3)
 owner:=h 28 _ (rcl_ge r 4)
 hits:=h 29 _ (rcl_ge r 5)
 quiet:=h 30 _ (rcl_ge r 6)
 age:=h 31 _ (rcl_ge r 7)
theorem Blk.range (h:Blk b (rca r) t W):W.rangeAt b 0 (rcl r):=fun j x hx=>by
 rw[Nat.zero_add,cell_of_row W b j _ _ _ h];unfold rca;simpa using hx
theorem Blk.cellsR (h:Blk b (rca r) t W):W.rangeAt b 0 (cl r.u.m)∧W.cell? ⟨b,24,none⟩=some (.int .i64 r.u.p)∧W.cell? ⟨b,25,none⟩=some (.slice r.q r.n r.c)∧W.cell? ⟨b,26,none⟩=some (.int .i64 r.u.idle)∧W.cell? ⟨b,27,none⟩=some (.int .i64 r.u.hard)∧W.cell? ⟨b,28,none⟩=some (.int .i64 r.u.owner)∧W.cell? ⟨b,29,none⟩=some (.int .i64 r.u.hits)∧W.cell? ⟨b,30,none⟩=some (.int .i64 r.u.quiet)∧W.cell? ⟨b,31,none⟩=some (.int .i64 r.u.age):=by
 have c:=cellsR_mid h.range;have e:∀k,0+k=k:=fun k=>Nat.zero_add k;exact⟨c.m,e 24 ▸ c.p,e 25 ▸ c.s,e 26 ▸ c.idle,e 27 ▸ c.hard,e 28 ▸ c.owner,e 29 ▸ c.hits,e 30 ▸ c.quiet,e 31 ▸ c.age⟩
end
theorem zeroR:((Tryz.prog.info? 88).bind (·.zero)).map (·.cells)=some #[.int .u64 0,.int .u64 0,.int .u64 0,.int .u64 0,.int .u64 0,.int .u64 0,.int .u64 0,.int .u64 0,.int .u64 0,.int .u64 0,.int .u64 0,.int .u64 0,.int .u64 0,.int .u64 0,.int .u64 0,.int .u64 0,.int .u64 0,.int .u64 0,.int .u64 0,.int .u64 0,.int .u64 0,.int .u64 0,.int .u64 0,.int .u64 0,.int .i64 0,Value.slice none 0 0,.int .i64 0,.int .i64 0,.int .i64 0,.int .i64 0,.int .i64 0,.int .i64 0]:=by kernel_rfl
theorem fillOne (x:Rm):Instr.fill (fun i'=>some (i'*32,32)) ((Array.range (1*32)).map ((#[.int .u64 0,.int .u64 0,.int .u64 0,.int .u64 0,.int .u64 0,.int .u64 0,.int .u64 0,.int .u64 0,.int .u64 0,.int .u64 0,.int .u64 0,.int .u64 0,.int .u64 0,.int .u64 0,.int .u64 0,.int .u64 0,.int .u64 0,.int .u64 0,.int .u64 0,.int .u64 0,.int .u64 0,.int .u64 0,.int .u64 0,.int .u64 0,.int .i64 0,Value.slice none 0 0,.int .i64 0,.int .i64 0,.int .i64 0,.int .i64 0,.int .i64 0,.int .i64 0]:Array Value)[· % (#[.int .u64 0,.int .u64 0,.int .u64 0,.int .u64 0,.int .u64 0,.int .u64 0,.int .u64 0,.int .u64 0,.int .u64 0,.int .u64 0,.int .u64 0,.int .u64 0,.int .u64 0,.int .u64 0,.int .u64 0,.int .u64 0,.int .u64 0,.int .u64 0,.int .u64 0,.int .u64 0,.int .u64 0,.int .u64 0,.int .u64 0,.int .u64 0,.int .i64 0,Value.slice none 0 0,.int .i64 0,.int .i64 0,.int .i64 0,.int .i64 0,.int .i64 0,.int .i64 0]:Array Value).size]!)) [(0,.agg (rca x))]=some (rca x):=by kernel_rfl
theorem infoR:(Tryz.prog.info? 88).map (·.size)=some 32:=by kernel_rfl
def upB (n m : Int) : Bool := decide (0 ≤ n) && decide (n ≤ m)
def sndR (u : Ru) : Bool := csnd u.m && (sndAL u.acts && (upB u.p 65535 && (upB u.idle 1048576 && (upB u.hard 1048576 && (upB u.owner 255 && (decide (0 ≤ u.hits) && (decide (0 ≤ u.quiet) && decide (0 ≤ u.age))))))))
def keyB (a b : Ru) : Bool := (a.p == b.p) && cEq a.m b.m
def ovB (a b : Ru) : Bool := metB a.m b.m && (a.p == b.p)
def pOrd (a b : Int) : Int := if a < b then -1 else if b < a then 1 else 0
def rOrd (a b : Ru) : Int := if pOrd b.p a.p ≠ 0 then pOrd b.p a.p else cOrd a.m b.m
def rEq (a b : Ru) : Bool := keyB a b && (aEqL a.acts b.acts && ((a.idle == b.idle) && ((a.hard == b.hard) && ((a.owner == b.owner) && ((a.hits == b.hits) && ((a.quiet == b.quiet) && (a.age == b.age)))))))
theorem hOrd_congrL {a b c:Nat→Int} (h:hOrd a b=0):hOrd a c=hOrd b c:=by
 have hz:∀j,j<12→a j=b j:=(by have:=ord_zero a b;rw[h] at this;exact(hEq_iff a b).1 (by simpa using this.symm));unfold hOrd;have e:((List.range 12).find? fun j=>a j != c j)=(List.range 12).find? fun j=>b j != c j:=by
  have:∀(L:List Nat),(∀j∈L,j<12)→(L.find? fun j=>a j != c j)=L.find? fun j=>b j != c j:=by
   intro L;induction L with
   |nil=>intro _;rfl
   |cons x L ih=>intro hL;have hx:=hz x (hL x (by simp));rw[List.find?_cons,List.find?_cons,hx,ih fun j hj=>hL j (by simp[hj])]
  exact this _ (by simp)
 rw[e];cases hf:(List.range 12).find? fun j=>b j != c j with
 |none=>rfl
 |some k=>have hk:k<12:=(by simpa using List.mem_of_find?_eq_some hf);simp only[hz k hk]
theorem cOrd_le {a b c:Nat→Int} (h1:cOrd a b≤0) (h2:cOrd b c≤0):cOrd a c≤0:=by
 have nz:∀x y:Nat→Int,(hOrd x y != 0)=true↔hOrd x y≠0:=fun x y=>(by simp);unfold cOrd at*;by_cases e1:hOrd (care a) (care b)=0
 ·have c1:hOrd (care a) (care c)=hOrd (care b) (care c):=hOrd_congrL e1;rw[c1];rw[e1] at h1;by_cases e2:hOrd (care b) (care c)=0
  ·rw[e2] at h2 ⊢;simp at h1 h2 ⊢;exact ord_trans a b c h1 h2
  ·rw[if_pos ((nz _ _).2 e2)] at h2 ⊢;exact h2
 ·rw[if_pos ((nz _ _).2 e1)] at h1;have hac:hOrd (care a) (care c)≤0:=by
   refine ord_trans _ (care b) _ h1 ?_;by_cases e2:hOrd (care b) (care c)=0
   ·omega
   ·rw[if_pos ((nz _ _).2 e2)] at h2;exact h2
  by_cases e3:hOrd (care a) (care c)=0
  ·exfalso;have n1:=ord_neg (care a) (care b);have n3:=hOrd_congrL (a:=care a) (b:=care c) (c:=care b) e3;have n2:=ord_neg (care c) (care b);by_cases e2:hOrd (care b) (care c)=0
   ·omega
   ·rw[if_pos ((nz _ _).2 e2)] at h2;omega
  ·rw[if_pos ((nz _ _).2 e3)];exact hac
theorem pOrd_neg (a b:Int):pOrd b a= -pOrd a b:=by unfold pOrd;split<;>split<;>(try split)<;>omega
theorem pOrd_zero (a b:Int):pOrd a b=0↔a=b:=by unfold pOrd;split<;>(try split)<;>omega
theorem pOrd_le (a b:Int):pOrd a b≤0↔a≤b:=by unfold pOrd;split<;>(try split)<;>omega
theorem rOrd_ordd:Ordd rOrd where
 neg:=fun a b=>by have h1:=pOrd_neg a.p b.p;have h2:=cOrd_neg a.m b.m;unfold rOrd;split<;>split<;>omega
 trans:=fun a b c h1 h2=>by
  have z1:=pOrd_zero b.p a.p;have z2:=pOrd_zero c.p b.p;have z3:=pOrd_zero c.p a.p;have l1:=pOrd_le b.p a.p;have l2:=pOrd_le c.p b.p;have l3:=pOrd_le c.p a.p;unfold rOrd at*;by_cases e1:pOrd b.p a.p=0
  ·by_cases e2:pOrd c.p b.p=0
   ·rw[if_neg (by simpa using e1)] at h1;rw[if_neg (by simpa using e2)] at h2;have e3:pOrd c.p a.p=0:=(by have:=z1.1 e1;have:=z2.1 e2;apply z3.2;omega);rw[if_neg (by simpa using e3)];exact cOrd_le h1 h2
   ·rw[if_pos e2] at h2;have e3:pOrd c.p a.p=pOrd c.p b.p:=(by rw[z1.1 e1]);rw[e3,if_pos e2];exact h2
  ·rw[if_pos e1] at h1;have:=l1.1 h1;have q:c.p≤b.p:=by
    by_cases e2:pOrd c.p b.p=0
    ·have:=z2.1 e2;omega
    ·rw[if_pos e2] at h2;exact l2.1 h2
   have n1:b.p≠a.p:=fun e=>e1 (z1.2 e);have e3:pOrd c.p a.p≠0:=fun e=>(by have:=z3.1 e;omega);rw[if_pos e3];exact l3.2 (by omega)
theorem key_ord (a b:Ru):keyB a b=(rOrd a b==0):=by
 have z1:=pOrd_zero b.p a.p;have z:=cOrd_zero a.m b.m;unfold keyB rOrd;by_cases e:a.p=b.p
 ·rw[if_neg (by simpa using z1.2 e.symm),z,e];simp
 ·have e':pOrd b.p a.p≠0:=fun h=>e (z1.1 h).symm;rw[if_pos e',show(a.p==b.p)=false by simpa using e,show(pOrd b.p a.p==0)=false by simpa using e'];rfl
theorem keyB_symm (a b:Ru):keyB a b=keyB b a:=by
 rw[key_ord,key_ord,rOrd_ordd.neg a b];by_cases e:rOrd a b=0
 ·rw[e];rfl
 ·rw[show(rOrd a b==0)=false by simpa using e,show(-rOrd a b==0)=false by simp;omega]
theorem keyB_self (a:Ru):keyB a a=true:=by rw[key_ord,rOrd_ordd.refl];rfl
theorem rEq_self (a:Ru):rEq a a=true:=by simp[rEq,keyB_self,(aEqL_iff a.acts a.acts).2 rfl]
def tblOf (us : List Ru) : List Ru := srtL rOrd (us.filter sndR)
theorem tblOf_srt (us:List Ru):Srt rOrd (tblOf us):=srtL_srt rOrd_ordd _
theorem upTo_any (n m:Int) (w:World):Calls Tryz.prog 129 #[.int .i64 n,.int .i64 m] w fun e w'=>e= .returned (.bool (upB n m))∧w'=w:=by
 unfold upB;by_cases h:0≤n
 ·have hd:decide (0≤n)=true:=decide_eq_true h;rw[hd,Bool.true_and];(go_enter Tryz.func129,Tryz.ntmps129);go_wp2;go_ret;exact⟨rfl,rfl⟩
 ·have hd:decide (0≤n)=false:=decide_eq_false h;rw[hd,Bool.false_and];(go_enter Tryz.func129,Tryz.ntmps129);go_wp2;go_ret;exact⟨rfl,rfl⟩
theorem span_any (n m:Int) (w:World):Calls Tryz.prog 52 #[.int .i64 n,.int .i64 m] w fun e w'=>e= .returned (.bool (upB n m))∧w'=w:=by
 unfold upB;by_cases h:0≤n
 ·have hd:decide (0≤n)=true:=decide_eq_true h;rw[hd,Bool.true_and];(go_enter Tryz.func52,Tryz.ntmps52);go_wp2;go_ret;exact⟨rfl,rfl⟩
 ·have hd:decide (0≤n)=false:=decide_eq_false h;rw[hd,Bool.false_and];(go_enter Tryz.func52,Tryz.ntmps52);go_wp2;go_ret;exact⟨rfl,rfl⟩
set_option maxHeartbeats 1000000 in
set_option maxRecDepth 100000 in
theorem rsound_any (r:Rm) (hw:WfR r.u) (w:World) (ha:InA r w) (ht:Tab w) (hz:0<w.heap.size):Calls Tryz.prog 104 #[.agg (rca r)] w fun e w'=>e= .returned (.bool (sndR r.u))∧Below w.heap.size w w':=by
 have R0:=qH (Blk.new w (rca r) 88);have HE:=qH ((Env.start ht hz).alloc (.cells (rca r) 88));have HC:=qH (csound_any r.u.m hw.m0 _ HE.out.tab HE.out.lt);have HA:=qH (fun(W:World) (hb:Env w W)=>asound_any (.slice r.q r.n r.c) r.u.acts hw.len hw.a W (ha.below hb.kept) hb.tab hb.lt);have M0:=qH R0.out.cellsR.1;obtain⟨y,hy⟩:∃y,y=sndR r.u:=⟨_,rfl⟩;rw[←hy];unfold sndR at hy;have HY:=qH hy;clear ht ha hw hy;cases hc:csnd r.u.m
 ·rw[hc] at HC;(go_enter Tryz.func104,Tryz.ntmps104);(go_wp2_with(first|(refine wpList_load_mid rfl 37 _ rfl w.heap.size 0 rfl (cl r.u.m) _ M0.out Tryz.underlying37 rfl infoCube ?_)|(go_at_call 114;refine HC.out.mono ?_;rintro e w1 ⟨rfl,hw1⟩)));go_ret;exact⟨ret_bool (by rw[HY.out,hc];rfl),(HE.out.below hw1).kept⟩
 ·rw[hc] at HC;(go_enter Tryz.func104,Tryz.ntmps104);(go_wp2_with(first|(refine wpList_load_mid rfl 37 _ rfl w.heap.size 0 rfl (cl r.u.m) _ M0.out Tryz.underlying37 rfl infoCube ?_)|(go_at_call 114;refine HC.out.mono ?_;rintro e w1 ⟨rfl,hw1⟩;refine Hid.out ?_)));have R1:=qH (R0.out.below hw1);have HE1:=qH (HE.out.below hw1);have HA1:=qH (HA.out w1 HE1.out);clear hw1 HC R0 HE HA M0;obtain⟨_,_,k25,_⟩:=R1.out.cellsR;cases hs:sndAL r.u.acts
  ·rw[hs] at HA1;refine qH ?_;(go_wp2_with(go_at_call 79;refine HA1.out.mono ?_;rintro e w2 ⟨rfl,hw2⟩));go_ret;exact⟨ret_bool (by rw[HY.out,hc,hs];rfl),(HE1.out.below hw2).kept⟩
  ·rw[hs] at HA1;refine qH ?_;(go_wp2_with(go_at_call 79;refine HA1.out.mono ?_;rintro e w2 ⟨rfl,hw2⟩;refine Hid.out ?_));have R2:=qH (R1.out.below hw2);have HE2:=qH (HE1.out.below hw2);clear hw2 HA1 R1 HE1 k25;obtain⟨_,k24,_,k26,k27,k28,k29,k30,k31⟩:=R2.out.cellsR;refine qH ?_;cases h1:upB r.u.p 65535
   ·(go_wp2_with(go_at_call 129;refine(upTo_any _ _ _).mono ?_;rintro e w3 ⟨rfl,rfl⟩));go_ret;exact⟨ret_bool (by rw[HY.out,hc,hs,h1];rfl),HE2.out.kept⟩
   ·skip;cases h2:upB r.u.idle 1048576
    ·(go_wp2_with(go_at_call 129;refine(upTo_any _ _ _).mono ?_;rintro e w3 ⟨rfl,rfl⟩));go_ret;exact⟨ret_bool (by rw[HY.out,hc,hs,h1,h2];rfl),HE2.out.kept⟩
    ·skip;cases h3:upB r.u.hard 1048576
     ·(go_wp2_with(go_at_call 129;refine(upTo_any _ _ _).mono ?_;rintro e w3 ⟨rfl,rfl⟩));go_ret;exact⟨ret_bool (by rw[HY.out,hc,hs,h1,h2,h3];rfl),HE2.out.kept⟩
     ·skip;cases h4:upB r.u.owner 255
      ·(go_wp2_with(go_at_call 129;refine(upTo_any _ _ _).mono ?_;rintro e w3 ⟨rfl,rfl⟩));go_ret;exact⟨ret_bool (by rw[HY.out,hc,hs,h1,h2,h3,h4];rfl),HE2.out.kept⟩
      ·skip;by_cases h5:0≤r.u.hits;rotate_left
       ·have h5d:decide (0≤r.u.hits)=false:=decide_eq_false h5;(go_wp2_with(go_at_call 129;refine(upTo_any _ _ _).mono ?_;rintro e w3 ⟨rfl,rfl⟩));go_ret;exact⟨ret_bool (by rw[HY.out,hc,hs,h1,h2,h3,h4,h5d];rfl),HE2.out.kept⟩
       have h5d:decide (0≤r.u.hits)=true:=decide_eq_true h5;by_cases h6:0≤r.u.quiet;rotate_left
       ·have h6d:decide (0≤r.u.quiet)=false:=decide_eq_false h6;(go_wp2_with(go_at_call 129;refine(upTo_any _ _ _).mono ?_;rintro e w3 ⟨rfl,rfl⟩));go_ret;exact⟨ret_bool (by rw[HY.out,hc,hs,h1,h2,h3,h4,h5d,h6d];rfl),HE2.out.kept⟩
       have h6d:decide (0≤r.u.quiet)=true:=decide_eq_true h6;by_cases h7:0≤r.u.age;rotate_left
       ·have h7d:decide (0≤r.u.age)=false:=decide_eq_false h7;(go_wp2_with(go_at_call 129;refine(upTo_any _ _ _).mono ?_;rintro e w3 ⟨rfl,rfl⟩));go_ret;exact⟨ret_bool (by rw[HY.out,hc,hs,h1,h2,h3,h4,h5d,h6d,h7d];rfl),HE2.out.kept⟩
       have h7d:decide (0≤r.u.age)=true:=decide_eq_true h7;(go_wp2_with(go_at_call 129;refine(upTo_any _ _ _).mono ?_;rintro e w3 ⟨rfl,rfl⟩));go_ret;exact⟨ret_bool (by rw[HY.out,hc,hs,h1,h2,h3,h4,h5d,h6d,h7d];rfl),HE2.out.kept⟩
def EnvB (w W : World) : Prop := Below w.heap.size w W
theorem EnvB.start (w:World):EnvB w w:=Below.refl _ _
theorem EnvB.kept {w W:World} (h:EnvB w W):Below w.heap.size w W:=h
theorem EnvB.below {w W W':World} (h:EnvB w W) (hb:Below W.heap.size W W'):EnvB w W':=Below.trans h (hb.mono (Below.size h))
theorem EnvB.alloc {w W:World} (h:EnvB w W) (o:Obj):EnvB w (W.alloc o):=h.below (below1 _ _)
set_option maxHeartbeats 1000000 in
set_option maxRecDepth 100000 in
theorem rrule_b (r:Rm) (hw:WfR r.u) (w:World) (ha:InA r w):Calls Tryz.prog 48 #[.agg (rca r)] w fun e w'=>e= .returned (.bool (sndR r.u))∧Below w.heap.size w w':=by
 have R0:=qH (Blk.new w (rca r) 88);have HE:=qH ((EnvB.start w).alloc (.cells (rca r) 88));have HC:=qH (rcube_any r.u.m hw.m (w.alloc (.cells (rca r) 88)));have HA:=qH (fun(W:World) (hb:EnvB w W)=>racts_any (.slice r.q r.n r.c) r.u.acts hw.len hw.a W (ha.below hb.kept));have M0:=qH R0.out.cellsR.1;obtain⟨y,hy⟩:∃y,y=sndR r.u:=⟨_,rfl⟩;rw[←hy];unfold sndR at hy;have HY:=qH hy;clear ha hw hy;cases hc:csnd r.u.m
 ·rw[hc] at HC;(go_enter Tryz.func48,Tryz.ntmps48);(go_wp2_with(first|(refine wpList_load_mid rfl 37 _ rfl w.heap.size 0 rfl (cl r.u.m) _ M0.out Tryz.underlying37 rfl infoCube ?_)|(go_at_call 50;refine HC.out.mono ?_;rintro e w1 ⟨rfl,hw1⟩)));go_ret;exact⟨ret_bool (by rw[HY.out,hc];rfl),(HE.out.below hw1).kept⟩
 ·rw[hc] at HC;(go_enter Tryz.func48,Tryz.ntmps48);(go_wp2_with(first|(refine wpList_load_mid rfl 37 _ rfl w.heap.size 0 rfl (cl r.u.m) _ M0.out Tryz.underlying37 rfl infoCube ?_)|(go_at_call 50;refine HC.out.mono ?_;rintro e w1 ⟨rfl,hw1⟩;refine Hid.out ?_)));have R1:=qH (R0.out.below hw1);have HE1:=qH (HE.out.below hw1);have HA1:=qH (HA.out w1 HE1.out);clear hw1 HC R0 HE HA M0;obtain⟨_,_,k25,_⟩:=R1.out.cellsR;cases hs:sndAL r.u.acts
  ·rw[hs] at HA1;refine qH ?_;(go_wp2_with(go_at_call 51;refine HA1.out.mono ?_;rintro e w2 ⟨rfl,hw2⟩));go_ret;exact⟨ret_bool (by rw[HY.out,hc,hs];rfl),(HE1.out.below hw2).kept⟩
  ·rw[hs] at HA1;refine qH ?_;(go_wp2_with(go_at_call 51;refine HA1.out.mono ?_;rintro e w2 ⟨rfl,hw2⟩;refine Hid.out ?_));have R2:=qH (R1.out.below hw2);have HE2:=qH (HE1.out.below hw2);clear hw2 HA1 R1 HE1 k25;obtain⟨_,k24,_,k26,k27,k28,k29,k30,k31⟩:=R2.out.cellsR;refine qH ?_;cases h1:upB r.u.p 65535
   ·(go_wp2_with(go_at_call 52;refine(span_any _ _ _).mono ?_;rintro e w3 ⟨rfl,rfl⟩));go_ret;exact⟨ret_bool (by rw[HY.out,hc,hs,h1];rfl),HE2.out.kept⟩
   ·skip;cases h2:upB r.u.idle 1048576
    ·(go_wp2_with(go_at_call 52;refine(span_any _ _ _).mono ?_;rintro e w3 ⟨rfl,rfl⟩));go_ret;exact⟨ret_bool (by rw[HY.out,hc,hs,h1,h2];rfl),HE2.out.kept⟩
    ·skip;cases h3:upB r.u.hard 1048576
     ·(go_wp2_with(go_at_call 52;refine(span_any _ _ _).mono ?_;rintro e w3 ⟨rfl,rfl⟩));go_ret;exact⟨ret_bool (by rw[HY.out,hc,hs,h1,h2,h3];rfl),HE2.out.kept⟩
     ·skip;cases h4:upB r.u.owner 255
      ·(go_wp2_with(go_at_call 52;refine(span_any _ _ _).mono ?_;rintro e w3 ⟨rfl,rfl⟩));go_ret;exact⟨ret_bool (by rw[HY.out,hc,hs,h1,h2,h3,h4];rfl),HE2.out.kept⟩
      ·skip;by_cases h5:0≤r.u.hits;rotate_left
       ·have h5d:decide (0≤r.u.hits)=false:=decide_eq_false h5;(go_wp2_with(go_at_call 52;refine(span_any _ _ _).mono ?_;rintro e w3 ⟨rfl,rfl⟩));go_ret;exact⟨ret_bool (by rw[HY.out,hc,hs,h1,h2,h3,h4,h5d];rfl),HE2.out.kept⟩
       have h5d:decide (0≤r.u.hits)=true:=decide_eq_true h5;by_cases h6:0≤r.u.quiet;rotate_left
       ·have h6d:decide (0≤r.u.quiet)=false:=decide_eq_false h6;(go_wp2_with(go_at_call 52;refine(span_any _ _ _).mono ?_;rintro e w3 ⟨rfl,rfl⟩));go_ret;exact⟨ret_bool (by rw[HY.out,hc,hs,h1,h2,h3,h4,h5d,h6d];rfl),HE2.out.kept⟩
       have h6d:decide (0≤r.u.quiet)=true:=decide_eq_true h6;by_cases h7:0≤r.u.age;rotate_left
       ·have h7d:decide (0≤r.u.age)=false:=decide_eq_false h7;(go_wp2_with(go_at_call 52;refine(span_any _ _ _).mono ?_;rintro e w3 ⟨rfl,rfl⟩));go_ret;exact⟨ret_bool (by rw[HY.out,hc,hs,h1,h2,h3,h4,h5d,h6d,h7d];rfl),HE2.out.kept⟩
       have h7d:decide (0≤r.u.age)=true:=decide_eq_true h7;(go_wp2_with(go_at_call 52;refine(span_any _ _ _).mono ?_;rintro e w3 ⟨rfl,rfl⟩));go_ret;exact⟨ret_bool (by rw[HY.out,hc,hs,h1,h2,h3,h4,h5d,h6d,h7d];rfl),HE2.out.kept⟩
theorem rrule_any (r:Rm) (hw:WfR r.u) (w:World) (ha:InA r w) (_:Tab w) (_:0<w.heap.size):Calls Tryz.prog 48 #[.agg (rca r)] w fun e w'=>e= .returned (.bool (sndR r.u))∧Below w.heap.size w w':=rrule_b r hw w ha
theorem isNaN_any (n:Int) (w:World):Calls Tryz.prog 126 #[.int .i64 n] w fun e w'=>e= .returned (.bool false)∧w'=w:=by
 (go_enter Tryz.func126,Tryz.ntmps126);go_wp2;go_ret;exact⟨ret_bool (by simp),rfl⟩
set_option maxHeartbeats 400000 in
theorem pcmp_any (a b:Int) (w:World):Calls Tryz.prog 156 #[.int .i64 a,.int .i64 b] w fun e w'=>e= .returned (.int .i64 (pOrd a b))∧w'=w:=by
 unfold pOrd;by_cases h1:a<b
 ·rw[if_pos h1];(go_enter Tryz.func156,Tryz.ntmps156);(go_wp2_with(go_at_call 126;refine(isNaN_any _ _).mono ?_;rintro e w1 ⟨rfl,rfl⟩));go_ret;exact⟨rfl,rfl⟩
 ·rw[if_neg h1];by_cases h2:b<a
  ·rw[if_pos h2];(go_enter Tryz.func156,Tryz.ntmps156);(go_wp2_with(go_at_call 126;refine(isNaN_any _ _).mono ?_;rintro e w1 ⟨rfl,rfl⟩));go_ret;exact⟨rfl,rfl⟩
  ·rw[if_neg h2];(go_enter Tryz.func156,Tryz.ntmps156);(go_wp2_with(go_at_call 126;refine(isNaN_any _ _).mono ?_;rintro e w1 ⟨rfl,rfl⟩));go_ret;exact⟨rfl,rfl⟩
theorem two_a (w:World) (a b:Rm):Blk w.heap.size (rca a) 88 ((w.alloc (.cells (rca a) 88)).alloc (.cells (rca b) 88)):=(Blk.new w (rca a) 88).old _
theorem two_b (w:World) (a b:Rm):Blk (w.heap.size+1) (rca b) 88 ((w.alloc (.cells (rca a) 88)).alloc (.cells (rca b) 88)):=Blk.new2 _ _ _ _
theorem two_below (w:World) (a b:Rm):Below w.heap.size w ((w.alloc (.cells (rca a) 88)).alloc (.cells (rca b) 88)):=(below1 w _).trans ((below1 _ _).mono (below1 w _).size)
theorem eqlC (a b:Nat→Int) (w:World):(Op.equalIn 10000 37 (.agg (cl a).toArray) (.agg (cl b).toArray)).run Tryz.prog w= .ok (cEq a b) w:=eql_cube a b w
set_option maxHeartbeats 400000 in
theorem key_any (a b:Rm) (w:World):Calls Tryz.prog 135 #[.agg (rca a),.agg (rca b)] w fun e w'=>e= .returned (.bool (keyB a.u b.u))∧Below w.heap.size w w':=by
 obtain⟨ma,ka,_⟩:=(two_a w a b).cellsR;obtain⟨mb,kb,_⟩:=(two_b w a b).cellsR;have MA:=qH ma;have MB:=qH mb;have HB:=qH (two_below w a b);have heq:=eqlC a.u.m b.u.m;have hgd:=guardCube;clear ma mb;unfold keyB;by_cases hp:a.u.p=b.u.p
 ·have hp':(a.u.p==b.u.p)=true:=(by simpa using hp);rw[hp',Bool.true_and];generalize cEq a.u.m b.u.m=y at*;(go_enter Tryz.func135,Tryz.ntmps135);(go_wp2_with(first|(refine loadMidG rfl 37 (.tmp 11) rfl w.heap.size 0 rfl (cl a.u.m) _ MA.out Tryz.underlying37 rfl infoCube ?_)|(refine loadMidG rfl 37 (.tmp 13) rfl (w.heap.size+1) 0 rfl (cl b.u.m) _ MB.out Tryz.underlying37 rfl infoCube ?_)));go_ret;exact⟨rfl,HB.out⟩
 ·have hp':(a.u.p==b.u.p)=false:=(by simpa using hp);rw[hp',Bool.false_and];(go_enter Tryz.func135,Tryz.ntmps135);go_wp2;go_ret;exact⟨rfl,HB.out⟩
set_option maxHeartbeats 400000 in
theorem rkey_any (a b:Rm) (w:World):Calls Tryz.prog 53 #[.agg (rca a),.agg (rca b)] w fun e w'=>e= .returned (.bool (keyB a.u b.u))∧Below w.heap.size w w':=by
 obtain⟨ma,ka,_⟩:=(two_a w a b).cellsR;obtain⟨mb,kb,_⟩:=(two_b w a b).cellsR;have MA:=qH ma;have MB:=qH mb;have HB:=qH (two_below w a b);have heq:=eqlC a.u.m b.u.m;have hgd:=guardCube;clear ma mb;unfold keyB;rw[Bool.and_comm];generalize cEq a.u.m b.u.m=y at*;cases y
 ·(go_enter Tryz.func53,Tryz.ntmps53);(go_wp2_with(first|(refine wpList_load_mid rfl 37 (.tmp 5) rfl w.heap.size 0 rfl (cl a.u.m) _ MA.out Tryz.underlying37 rfl infoCube ?_)|(refine wpList_load_mid rfl 37 (.tmp 7) rfl (w.heap.size+1) 0 rfl (cl b.u.m) _ MB.out Tryz.underlying37 rfl infoCube ?_)));go_ret;exact⟨rfl,HB.out⟩
 ·(go_enter Tryz.func53,Tryz.ntmps53);(go_wp2_with(first|(refine wpList_load_mid rfl 37 (.tmp 5) rfl w.heap.size 0 rfl (cl a.u.m) _ MA.out Tryz.underlying37 rfl infoCube ?_)|(refine wpList_load_mid rfl 37 (.tmp 7) rfl (w.heap.size+1) 0 rfl (cl b.u.m) _ MB.out Tryz.underlying37 rfl infoCube ?_)));go_ret;exact⟨rfl,HB.out⟩
set_option maxHeartbeats 400000 in
theorem order_any (a b:Rm) (w:World):Calls Tryz.prog 149 #[.agg (rca a),.agg (rca b)] w fun e w'=>e= .returned (.int .i64 (rOrd a.u b.u))∧Below w.heap.size w w':=by
 obtain⟨ma,ka,_⟩:=(two_a w a b).cellsR;obtain⟨mb,kb,_⟩:=(two_b w a b).cellsR;have MA:=qH ma;have MB:=qH mb;have HB:=qH (two_below w a b);have HC:=qH (ccmp_any a.u.m b.u.m ((w.alloc (.cells (rca a) 88)).alloc (.cells (rca b) 88)));have HP:=qH (fun W=>pcmp_any b.u.p a.u.p W);clear ma mb;unfold rOrd;generalize pOrd b.u.p a.u.p=y at*;by_cases hp:y=0
 ·subst hp;rw[if_neg (by simp)];(go_enter Tryz.func149,Tryz.ntmps149);(go_wp2_with(first|(refine wpList_load_mid rfl 37 (.tmp 14) rfl w.heap.size 0 rfl (cl a.u.m) _ MA.out Tryz.underlying37 rfl infoCube ?_)|(refine wpList_load_mid rfl 37 (.tmp 16) rfl (w.heap.size+1) 0 rfl (cl b.u.m) _ MB.out Tryz.underlying37 rfl infoCube ?_)|(go_at_call 156;refine(HP.out _).mono ?_;rintro e w1 ⟨rfl,rfl⟩)|(go_at_call 157;refine HC.out.mono ?_;rintro e w2 ⟨rfl,hw2⟩)));go_ret;exact⟨rfl,HB.out.trans (hw2.mono HB.out.size)⟩
 ·rw[if_pos hp];have hp':=ne_true hp;clear hp;(go_enter Tryz.func149,Tryz.ntmps149);(go_wp2_with(go_at_call 156;refine(HP.out _).mono ?_;rintro e w1 ⟨rfl,rfl⟩));go_ret;exact⟨rfl,HB.out⟩
theorem before_any (a b:Rm) (w:World):Calls Tryz.prog 130 #[.agg (rca a),.agg (rca b)] w fun e w'=>e= .returned (.bool (decide (rOrd a.u b.u<0)))∧Below w.heap.size w w':=by
 have RA:=qH (two_a w a b);have RB:=qH (two_b w a b);have HB:=qH (two_below w a b);have HO:=qH (order_any a b ((w.alloc (.cells (rca a) 88)).alloc (.cells (rca b) 88)));generalize rOrd a.u b.u=y at*;(go_enter Tryz.func130,Tryz.ntmps130);(go_wp2_with(first|(refine wpList_load_row rfl 88 (.tmp 2) rfl w.heap.size rfl 88 (rca a) (0,0) _ RA.out Tryz.underlying88 rfl infoR ?_)|(refine wpList_load_row rfl 88 (.tmp 3) rfl (w.heap.size+1) rfl 88 (rca b) (0,0) _ RB.out Tryz.underlying88 rfl infoR ?_)|(go_at_call 149;refine HO.out.mono ?_;rintro e w1 ⟨rfl,hw1⟩)));go_ret;exact⟨rfl,HB.out.trans (hw1.mono HB.out.size)⟩
set_option maxHeartbeats 400000 in
theorem rbefore_any (a b:Rm) (w:World):Calls Tryz.prog 49 #[.agg (rca a),.agg (rca b)] w fun e w'=>e= .returned (.bool (decide (rOrd a.u b.u<0)))∧Below w.heap.size w w':=by
 obtain⟨ma,ka,_⟩:=(two_a w a b).cellsR;obtain⟨mb,kb,_⟩:=(two_b w a b).cellsR;have MA:=qH ma;have MB:=qH mb;have HB:=qH (two_below w a b);have HC:=qH (rccmp_any a.u.m b.u.m ((w.alloc (.cells (rca a) 88)).alloc (.cells (rca b) 88)));clear ma mb;unfold rOrd;have z1:=pOrd_zero b.u.p a.u.p;by_cases hp:a.u.p=b.u.p
 ·rw[if_neg (by simpa using z1.2 hp.symm)];clear z1;generalize cOrd a.u.m b.u.m=y at*;have hp':(a.u.p != b.u.p)=false:=(by simpa using hp);clear hp;(go_enter Tryz.func49,Tryz.ntmps49);(go_wp2_with(first|(refine wpList_load_mid rfl 37 (.tmp 15) rfl w.heap.size 0 rfl (cl a.u.m) _ MA.out Tryz.underlying37 rfl infoCube ?_)|(refine wpList_load_mid rfl 37 (.tmp 17) rfl (w.heap.size+1) 0 rfl (cl b.u.m) _ MB.out Tryz.underlying37 rfl infoCube ?_)|(go_at_call 83;refine HC.out.mono ?_;rintro e w2 ⟨rfl,hw2⟩)));go_ret;exact⟨rfl,HB.out.trans (hw2.mono HB.out.size)⟩
 ·have hn:pOrd b.u.p a.u.p≠0:=fun h=>hp (z1.1 h).symm;rw[if_pos hn];have e:decide (pOrd b.u.p a.u.p<0)=decide (b.u.p<a.u.p):=by
   have:=pOrd_le b.u.p a.u.p;by_cases h:b.u.p<a.u.p
   ·rw[decide_eq_true h];exact decide_eq_true (by have:=this.2 (by omega);omega)
   ·rw[decide_eq_false h];exact decide_eq_false (fun h'=>by have:=this.1 (by omega);omega)
  rw[e];have hp':=ne_true hp;clear hp hn e z1 HC;(go_enter Tryz.func49,Tryz.ntmps49);go_wp2;go_ret;exact⟨rfl,HB.out⟩
set_option maxHeartbeats 400000 in
theorem overlap_any (a b:Rm) (ha:Wf a.u.m) (hb:Wf b.u.m) (w:World) (ht:Tab w) (hz:0<w.heap.size):Calls Tryz.prog 138 #[.agg (rca a),.agg (rca b)] w fun e w'=>e= .returned (.bool (ovB a.u b.u))∧Below w.heap.size w w':=by
 have RA:=qH (two_a w a b);have RB:=qH (two_b w a b);have MA:=qH RA.out.cellsR.1;have MB:=qH RB.out.cellsR.1;have HE:=qH (((Env.start ht hz).alloc (.cells (rca a) 88)).alloc (.cells (rca b) 88));have HC:=qH (cmeet_any a.u.m b.u.m (fun j=>(ha j).1) (fun j=>(hb j).1) _ HE.out.tab HE.out.lt);clear ht ha hb;unfold ovB;generalize metV a.u.m b.u.m=g at*;generalize metB a.u.m b.u.m=y at*;(go_enter Tryz.func138,Tryz.ntmps138);(go_upto_region 2 with(first|(refine wpList_load_mid rfl 37 (.tmp 8) rfl w.heap.size 0 rfl (cl a.u.m) _ MA.out Tryz.underlying37 rfl infoCube ?_)|(refine wpList_load_mid rfl 37 (.tmp 10) rfl (w.heap.size+1) 0 rfl (cl b.u.m) _ MB.out Tryz.underlying37 rfl infoCube ?_)|(go_at_call 151;refine HC.out.mono ?_;rintro e w1 ⟨rfl,hw1⟩)|(refine wpList_store_row rfl 37 _ _ rfl w1.heap.size (cc g) rfl rfl 37 _ (heap_alloc_new _ _) (by kernel_rfl) rfl (cc_one _) ?_;rw[World.setRow_alloc_new])));have RA1:=qH ((RA.out.below hw1).old (.cells (cc g) 37));have RB1:=qH ((RB.out.below hw1).old (.cells (cc g) 37));have HB:=qH ((HE.out.below hw1).alloc (.cells (cc g) 37)).kept;clear hw1 RA RB MA MB HE HC;obtain⟨_,ka,_⟩:=RA1.out.cellsR;obtain⟨_,kb,_⟩:=RB1.out.cellsR;cases y
 ·go_wp2;go_ret;exact⟨rfl,HB.out⟩
 ·go_wp2;go_ret;exact⟨rfl,HB.out⟩
set_option maxHeartbeats 400000 in
theorem roverlap_any (a b:Rm) (ha:Wf a.u.m) (hb:Wf b.u.m) (w:World):Calls Tryz.prog 54 #[.agg (rca a),.agg (rca b)] w fun e w'=>e= .returned (.bool (ovB a.u b.u))∧Below w.heap.size w w':=by
 have RA:=qH (two_a w a b);have RB:=qH (two_b w a b);have MA:=qH RA.out.cellsR.1;have MB:=qH RB.out.cellsR.1;have HB:=qH (two_below w a b);have HC:=qH (rmeet_any a.u.m b.u.m ha hb ((w.alloc (.cells (rca a) 88)).alloc (.cells (rca b) 88)));clear ha hb;unfold ovB;rw[Bool.and_comm];generalize metV a.u.m b.u.m=g at*;generalize metB a.u.m b.u.m=y at*;(go_enter Tryz.func54,Tryz.ntmps54);(go_upto_region 2 with(first|(refine wpList_load_mid rfl 37 (.tmp 8) rfl w.heap.size 0 rfl (cl a.u.m) _ MA.out Tryz.underlying37 rfl infoCube ?_)|(refine wpList_load_mid rfl 37 (.tmp 10) rfl (w.heap.size+1) 0 rfl (cl b.u.m) _ MB.out Tryz.underlying37 rfl infoCube ?_)|(go_at_call 27;refine HC.out.mono ?_;rintro e w1 ⟨rfl,hw1⟩)|(refine wpList_store_row rfl 37 _ _ rfl w1.heap.size (cc g) rfl rfl 37 _ (heap_alloc_new _ _) (by kernel_rfl) rfl (cc_one _) ?_;rw[World.setRow_alloc_new])));have RA1:=qH ((RA.out.below hw1).old (.cells (cc g) 37));have RB1:=qH ((RB.out.below hw1).old (.cells (cc g) 37));have HB1:=qH ((HB.out.trans (hw1.mono HB.out.size)).trans ((below1 w1 (.cells (cc g) 37)).mono (HB.out.trans (hw1.mono HB.out.size)).size));clear hw1 RA RB MA MB HB HC;obtain⟨_,ka,_⟩:=RA1.out.cellsR;obtain⟨_,kb,_⟩:=RB1.out.cellsR;by_cases hp:a.u.p=b.u.p
 ·have hp':(a.u.p==b.u.p)=true:=(by simpa using hp);go_wp2;go_ret;exact⟨ret_bool (by first|rw[hp',Bool.true_and]|(rw[hp'];simp)),HB1.out⟩
 ·have hp':(a.u.p==b.u.p)=false:=(by simpa using hp);go_wp2;go_ret;exact⟨ret_bool (by first|rw[hp',Bool.false_and]|(rw[hp'];simp)),HB1.out⟩
def stM (cur : Array Value) : Nat → List Value → Array Value
  | _, [] => cur
  | o, v :: r => stM (cur.setIfInBounds o v) (o + 1) r
theorem stM_size:∀(vs:List Value) (o:Nat) (cur:Array Value),(stM cur o vs).size=cur.size
 |[],_,_=>rfl
 |v::r,o,cur=>by rw[stM,stM_size r];simp
theorem stM_out:∀(vs:List Value) (o:Nat) (cur:Array Value) (j:Nat),j<o∨o+vs.length≤j→(stM cur o vs)[j]? =cur[j]?
 |[],_,_,_,_=>rfl
 |v::r,o,cur,j,h=>by rw[stM,stM_out r (o+1) _ j (by simp at h;omega),Array.getElem?_setIfInBounds,if_neg (by simp at h;omega)]
theorem stM_in:∀(vs:List Value) (o:Nat) (cur:Array Value) (j:Nat) (u:Value),o+vs.length≤cur.size→vs[j]? =some u→(stM cur o vs)[o+j]? =some u
 |[],_,_,_,_,_,h=>by simp at h
 |v::r,o,cur,0,u,hs,h=>by rw[stM,stM_out r (o+1) _ _ (by omega),Array.getElem?_setIfInBounds];simp at h hs;simp[h];omega
 |v::r,o,cur,j+1,u,hs,h=>by rw[stM,show o+(j+1)=o+1+j by omega];exact stM_in r (o+1) _ j u (by simp at hs ⊢;omega) (by simpa using h)
theorem heap_stM {g:Nat} {t:TypeId} {fr:Nat×Nat}:∀(vs:List Value) (o:Nat) (w:World) (cur:Array Value),w.heap[g]? =some (.cells cur t fr)→(w.setCells g o vs).heap[g]? =some (.cells (stM cur o vs) t fr)
 |[],_,_,_,h=>h
 |v::r,o,w,cur,h=>by have e:(w.setCell ⟨g,o,none⟩ v).heap[g]? =some (.cells (cur.setIfInBounds o v) t fr):=(by simp only[World.setCell,Array.getElem?_modify];rw[if_pos trivial,h];rfl);exact heap_stM r (o+1) _ _ e
theorem heap_stM_other {g k:Nat} (hk:k≠g):∀(vs:List Value) (o:Nat) (w:World),(w.setCells g o vs).heap[k]? =w.heap[k]?
 |[],_,_=>rfl
 |v::r,o,w=>by rw[World.setCells,heap_stM_other hk r];exact heap_setCell_other w ⟨g,o,none⟩ k v hk
theorem heap_stM_size {g:Nat}:∀(vs:List Value) (o:Nat) (w:World),(w.setCells g o vs).heap.size=w.heap.size
 |[],_,_=>rfl
 |v::r,o,w=>by rw[World.setCells,heap_stM_size r];simp[World.setCell]
theorem grown_stM {g:Nat}:∀(vs:List Value) (o:Nat) (w:World),w.grownBy (w.setCells g o vs) (some g)
 |[],_,w=>⟨rfl,rfl,rfl,Nat.le_refl _,fun _ _ _=>rfl⟩
 |v::r,o,w=>by
  have h:=grown_stM (g:=g) r (o+1) (w.setCell ⟨g,o,none⟩ v);refine⟨h.os,h.tape,h.output,?_,fun k hk hn=>?_⟩
  ·rw[heap_stM_size];exact Nat.le_refl _
  ·exact heap_stM_other (fun e=>hn (by rw[e])) _ _ _
section
variable {α : Type} {K : Kd α} {base g cap : Nat} {l k : List α} {W W' : World}
def KAt (K : Kd α) (g cap : Nat) (l : List α) (W : World) : Prop :=
  l.length ≤ cap ∧ cap ≤ maxLen ∧ ∃ cur, W.heap[g]? = some (.cells cur K.T (0, 0)) ∧ cur.size = cap * K.n ∧ ∀ i a, l[i]? = some a → ∀ j u, (K.cells a)[j]? = some u → cur[i * K.n + j]? = some u
theorem KAt.of (ok:K.Ok) (h:KOwns K base (.slice (some ⟨g,0,none⟩) l.length cap) l W):KAt K g cap l W∧base≤g:=by
 rcases h.2 with⟨e,_⟩|⟨g',cap',cur,e1,e2,e3,e4,e5,e6,e7⟩
 ·cases e
 ·injection e1 with e1 _ ec;injection e1 with e1;injection e1 with e1;subst e1;subst ec;refine⟨⟨e4,e5,cur,e3,e6,fun i a hi j u hu=>?_⟩,e2⟩;have q:=ok.flat_get l i a j u hi hu;rw[←e7] at q;have hlt:=(List.getElem?_eq_some_iff.1 q).1;rw[List.getElem?_take_of_lt (by rw[List.length_take] at hlt;omega),Array.getElem?_toList] at q;exact q
theorem KAt.owns (ok:K.Ok) (h:KAt K g cap l W) (hb:base≤g):KOwns K base (.slice (some ⟨g,0,none⟩) l.length cap) l W:=by
 obtain⟨h1,h2,cur,h3,h4,h5⟩:=h;have hle:l.length*K.n≤cap*K.n:=Nat.mul_le_mul_right _ h1;refine⟨ok.flat_len l,.inr ⟨g,cap,cur,rfl,hb,h3,h1,h2,h4,?_⟩⟩;apply List.ext_getElem?;intro t;by_cases ht:t<l.length*K.n
 ·rw[List.getElem?_take_of_lt ht,Array.getElem?_toList];have hf:t<(K.flat l).length:=(by rw[ok.flat_len];exact ht);obtain⟨i,a,m,e1,e2,e3⟩:=ok.flat_nth l t _ (List.getElem?_eq_getElem hf);have q:=h5 i a e1 m _ e2;rw[←e3] at q;rw[q,List.getElem?_eq_getElem hf]
 ·rw[List.getElem?_eq_none (by rw[List.length_take];omega),List.getElem?_eq_none (by rw[ok.flat_len];omega)]
theorem KAt.lt (h:KAt K g cap l W):g<W.heap.size:=by
 obtain⟨_,_,cur,h3,_⟩:=h;exact(Array.getElem?_eq_some_iff.1 h3).1
theorem KAt.same (h:KAt K g cap l W) (hb:W'.heap[g]? =W.heap[g]?):KAt K g cap l W':=by
 obtain⟨h1,h2,cur,h3,h4,h5⟩:=h;exact⟨h1,h2,cur,hb.trans h3,h4,h5⟩
theorem KAt.below (h:KAt K g cap l W) (hb:Below W.heap.size W W'):KAt K g cap l W':=h.same (hb.block g h.lt)
theorem KAt.range (h:KAt K g cap l W) {i:Nat} {a:α} (hi:l[i]? =some a):W.rangeAt g (i*K.n) (K.cells a):=by
 obtain⟨h1,h2,cur,h3,h4,h5⟩:=h;intro j v hv;rw[cell_of_row W g _ cur _ _ h3];exact h5 i a hi j v hv
theorem KAt.lies (h:KAt K g cap l W) (n:Nat) (hn:n=l.length) (c:Nat) (hc:n≤c):KLies K (.slice (some ⟨g,0,none⟩) n c) l W:=by
 subst hn;refine .inr ⟨⟨g,0,none⟩,c,rfl,hc,fun i a hi=>⟨rfl,?_⟩⟩;show W.rangeAt g (0+i*K.n) (K.cells a);rw[Nat.zero_add];exact h.range hi
theorem KAt.there (h:KAt K g cap l W) {i:Nat} (hi:i<cap):W.there g (i*K.n) K.n:=by
 obtain⟨h1,h2,cur,h3,h4,h5⟩:=h;intro j hj;refine⟨?_,frozen_of_row _ g _ _ _ h3⟩;rw[cell_of_row W g _ cur _ _ h3];have:i*K.n+j<cur.size:=(by rw[h4];have:=Nat.mul_le_mul_right K.n (show i+1≤cap from hi);rw[Nat.succ_mul] at this;omega);simp[this]
theorem KAt.put (ok:K.Ok) (h:KAt K g cap l W) {i:Nat} (hi:i<cap) (a:α) (hk:k.length≤cap) (hka:∀b,k[i]? =some b→b=a) (hko:∀j,j≠i→∀b,k[j]? =some b→l[j]? =some b):KAt K g cap k (W.setCells g (i*K.n) (K.cells a)):=by
 obtain⟨h1,h2,cur,h3,h4,h5⟩:=h;refine⟨hk,h2,stM cur (i*K.n) (K.cells a),heap_stM _ _ _ _ h3,by rw[stM_size];exact h4,fun t b hb j u hu=>?_⟩;have hj:j<K.n:=(by have:=(List.getElem?_eq_some_iff.1 hu).1;rwa [ok.len] at this);have hin:i*K.n+K.n≤cur.size:=(by rw[h4];have:=Nat.mul_le_mul_right K.n (show i+1≤cap from hi);rw[Nat.succ_mul] at this;omega);by_cases e:t=i
 ·subst e;rw[hka b hb] at hu;exact stM_in _ _ _ j _ (by rw[ok.len];exact hin) hu
 ·rw[stM_out _ _ _ _ ?_]
  ·exact h5 t b (hko t e b hb) j u hu
  ·rw[ok.len];rcases Nat.lt_or_gt_of_ne e with q|q
   ·have:=Nat.mul_le_mul_right K.n (show t+1≤i from q);rw[Nat.succ_mul] at this;omega
   ·have:=Nat.mul_le_mul_right K.n (show i+1≤t from q);rw[Nat.succ_mul] at this;omega
theorem KAt.set (ok:K.Ok) (h:KAt K g cap l W) {i:Nat} (hi:i<l.length) (a:α):KAt K g cap (l.set i a) (W.setCells g (i*K.n) (K.cells a)):=h.put ok (by have:=h.1;omega) a (by have:=h.1;simpa using this) (fun b hb=>by simpa [hi] using hb.symm) (fun j hj b hb=>by rwa [List.getElem?_set_ne (Ne.symm hj)] at hb)
theorem KAt.push (ok:K.Ok) (h:KAt K g cap l W) {i:Nat} (he:i=l.length) (hi:i<cap) (a:α):KAt K g cap (l++[a]) (W.setCells g (i*K.n) (K.cells a)):=by
 subst he;refine h.put ok hi a (by simp;omega) (fun b hb=>by simpa using hb.symm) (fun j hj b hb=>?_);have hlt:=(List.getElem?_eq_some_iff.1 hb).1;simp only[List.length_append,List.length_cons,List.length_nil] at hlt;rwa [List.getElem?_append_left (by omega)] at hb
theorem KAt.cut (h:KAt K g cap l W) (hk:k.length≤cap) (he:∀(i:Nat) a,k[i]? =some a→l[i]? =some a):KAt K g cap k W:=by
 obtain⟨h1,h2,cur,h3,h4,h5⟩:=h;exact⟨hk,h2,cur,h3,h4,fun i a hi j u hu=>h5 i a (he i a hi) j u hu⟩
theorem kstore (K:Kd α) (ok:K.Ok) (hinf:(Tryz.prog.info? K.T).map (·.size)=some K.n) {ops:Array Oper} {rest:List Oper} {o:Oper} {a:Act} {w:World} {Q:Exit→Act→World→Prop} (hgd:o.guard=none) (x y:Operand) (ho:o.op= .store K.T x y) (g i cap:Nat) (d:List α) (c:α) (hx:a.eval x= .pointer (some ⟨g,i*K.n,none⟩)) (hy:a.eval y= .agg (K.cells c).toArray) (hO:KAt K g cap d w) (hi:i<cap) (h:wpList Tryz.prog ops Q rest (a.put o.dst undef) (w.setCells g (i*K.n) (K.cells c))):wpList Tryz.prog ops Q (o::rest) a w:=wpList_store_mid hgd K.T x y ho g (i*K.n) (K.cells c).toArray hx hy (by rw[List.size_toArray,ok.len];exact hO.there hi) (by rw[List.size_toArray,ok.len];exact hinf) (all_oneCell_toArray (ok.one c)) h
theorem kmake (K:Kd α) (ok:K.Ok) {ops:Array Oper} {rest:List Oper} {o:Oper} {a:Act} {w:World} {Q:Exit→Act→World→Prop} (hg:o.guard=none) (x y:Operand) (ho:o.op=Op.makeSlice K.S x y) (n:Nat) (hx:a.eval x= .int .i64 (n:Int)) (hy:a.eval y= .int .i64 (n:Int)) (hn:n≤1000000) (h:∀w',KAt K w.heap.size n [] w'→Below w.heap.size w w'→w.heap.size<w'.heap.size→wpList Tryz.prog ops Q rest (a.put o.dst (.slice (some ⟨w.heap.size,0,none⟩) n n)) w'):wpList Tryz.prog ops Q (o::rest) a w:=by
 obtain⟨i,z,hi,hz,hsz,hby,hc⟩:=ok.info;have hl:=ok.light hn;refine wpList_make_full w hg x y K.S ho w.heap.size K.T i z K.n ok.under hi hz hsz .i64 .i64 n n n hx hy rfl rfl (by rw[hby,Nat.mul_comm];omega) (by unfold maxLen;omega) (Nat.le_refl _) fun w' h1 h2=>?_;rcases h1.2 with⟨e,_⟩|⟨g',cap',cur,e1,e2,e3,e4,e5,e6,e7⟩
 ·cases e
 ·injection e1 with e1 _ ec;injection e1 with e1;injection e1 with e1;subst e1;subst ec;refine h w' ⟨Nat.zero_le _,e5,cur,e3,e6,fun i a hi=>by simp at hi⟩ (Below.grown (Below.refl _ _) h2 (Nat.le_refl _) (fun k hk=>by cases hk)) (Array.getElem?_eq_some_iff.1 e3).1
end
theorem storeCell {ops:Array Oper} {rest:List Oper} {o:Oper} {a:Act} {w:World} {Q:Exit→Act→World→Prop} (hgd:o.guard=none) (ty:TypeId) (x y:Operand) (ho:o.op= .store ty x y) (b k:Nat) (v:Value) (hx:a.eval x= .pointer (some ⟨b,k,none⟩)) (hy:a.eval y=v) (h1:v.oneCell'=true) (ht:w.there b k 1) (hi:(Tryz.prog.info? ty).map (·.size)=some 1) (h:wpList Tryz.prog ops Q rest (a.put o.dst undef) (w.setCell ⟨b,k,none⟩ v)):wpList Tryz.prog ops Q (o::rest) a w:=wpList_plain hgd fun _ hK=>by
 have hc:v.cells=#[v]:=(by cases v<;>first|rfl|cases h1);have hq:=run_storeCells_cells (P:=Tryz.prog) b k [v] 0 w (fun j hj=>by simpa using (ht j (by simpa using hj)).1) (fun j hj=>by simpa using (ht j (by simpa using hj)).2) (fun u hu=>by simp at hu;subst hu;exact h1);have hr:(storeVar ty ⟨b,k,none⟩ v).run Tryz.prog w= .ok () (w.setCell ⟨b,k,none⟩ v):=by
  cases hq':Tryz.prog.info? ty with
  |none=>simp[hq'] at hi
  |some i=>have hs:i.size=1:=(by simpa [hq'] using hi);simp only[Nat.add_zero] at hq;simp[storeVar,sizeOf,typeInfo,hq',hc,hs];exact hq
 unfold Oper.wp execOp;simp only[ho,hx,hy,Instr.storeAt,Instr.sureAddr,Sem.run_bind,Sem.run_pure,Result.andThen_ok,hr];exact hK _ _ h
theorem Blk.there {b k n:Nat} {cs:Array Value} {t:TypeId} {W:World} (h:Blk b cs t W) (hk:k+n≤cs.size):W.there b k n:=fun j hj=>by
 refine⟨?_,frozen_of_row _ b _ _ _ h⟩;rw[cell_of_row W b _ cs _ _ h];simp[show k+j<cs.size by omega]
theorem Blk.one {b k:Nat} {cs:Array Value} {t:TypeId} {W:World} (h:Blk b cs t W) (v:Value):Blk b (cs.setIfInBounds k v) t (W.setCell ⟨b,k,none⟩ v):=heap_setCell_same W b k cs t v h
def OwnRet {α : Type} (K : Kd α) (w : World) (l : List α) (e : Ending) (w' : World) : Prop := ∃ v, e = .returned v ∧ KOwns K w.heap.size v l w' ∧ Below w.heap.size w w'
theorem aclone_any (v:Value) (l:List Ac) (hlen:l.length*32≤140737488355328) (w:World) (hl:KLies KA v l w):Calls Tryz.prog 74 #[v] w (OwnRet KA w l):=by
 rcases hl with⟨rfl,rfl⟩|⟨ad,cap,rfl,hcap,hr⟩
 ·have HO:=qH (KOwns.nil (K:=KA) w.heap.size w);(go_enter Tryz.func74,Tryz.ntmps74);have hq:=Lib.run_eql_slice_nil (P:=Tryz.prog) w 38 83 none 0 0 0 0 Tryz.underlying38;go_wp2;go_ret;exact⟨_,rfl,HO.out,Below.refl _ _⟩
 ·have HL:=qH (show KLies KA (.slice (some ad) l.length cap) l (w.alloc (.cells #[] 83)) from(show KLies KA (.slice (some ad) l.length cap) l w from .inr ⟨ad,cap,rfl,hcap,hr⟩).below okA (below1 _ _));have hq:=Lib.run_eql_slice_nil (P:=Tryz.prog) w 38 83 (some ad) l.length cap 0 0 Tryz.underlying38;clear hr;(go_enter Tryz.func74,Tryz.ntmps74);(go_wp2_with(first|(refine kbuildNone KA okA rfl rfl ?_)|(refine kappendB KA okA rfl _ _ rfl w.heap.size _ [] l rfl (KOwns.built w _ (Nat.le_refl _)) _ rfl HL.out (by simp) (by simpa using hlen) (fun v' w' ho hg=>?_))));have hb:=kbelowOwn (below1 w (.cells #[] 83)) (KOwns.built (K:=KA) w w.heap.size (Nat.le_refl _)) (Nat.le_refl _) hg;go_ret;exact⟨_,rfl,ho,hb⟩
def OwnA (base : Nat) (r : Rm) (W : World) : Prop := KOwns KA base (.slice r.q r.n r.c) r.u.acts W
theorem OwnA.inA {base:Nat} {r:Rm} {W:World} (h:OwnA base r W):InA r W:=KOwns.lies h okA
theorem OwnA.below {base:Nat} {r:Rm} {W W':World} (h:OwnA base r W) (hb:Below W.heap.size W W'):OwnA base r W':=KOwns.below h hb
theorem OwnA.mono {base base':Nat} {r:Rm} {W:World} (h:OwnA base r W) (hb:base'≤base):OwnA base' r W:=KOwns.mono h hb
theorem rca_acts (r:Rm) (q:Option Addr) (n c:Nat):(rca r).setIfInBounds 25 (.slice q n c)=rca ⟨r.u,q,n,c⟩:=by
 apply Array.ext';simp only[rca,rcl,Array.toList_setIfInBounds];rw[List.set_append_right _ _ (by simp[cl])];simp[cl,rtl]
theorem rca_size (r:Rm):(rca r).size=32:=by simp[rca,rcl,rtl,cl]
theorem infoActs:(Tryz.prog.info? 38).map (·.size)=some 1:=by kernel_rfl
def CloneRet (w : World) (r : Rm) (e : Ending) (w' : World) : Prop := ∃ r', e = .returned (.agg (rca r')) ∧ r'.u = r.u ∧ OwnA w.heap.size r' w' ∧ Below w.heap.size w w'
set_option maxHeartbeats 1000000 in
theorem rclone_any (r:Rm) (hlen:r.u.acts.length*32≤140737488355328) (w:World) (ha:InA r w):Calls Tryz.prog 67 #[.agg (rca r)] w (CloneRet w r):=by
 have R0:=qH ((Blk.new w (rca r) 88).old (.cells #[.int .u64 0,.int .u64 0,.int .u64 0,.int .u64 0,.int .u64 0,.int .u64 0,.int .u64 0,.int .u64 0,.int .u64 0,.int .u64 0,.int .u64 0,.int .u64 0,.int .u64 0,.int .u64 0,.int .u64 0,.int .u64 0,.int .u64 0,.int .u64 0,.int .u64 0,.int .u64 0,.int .u64 0,.int .u64 0,.int .u64 0,.int .u64 0,.int .i64 0,Value.slice none 0 0,.int .i64 0,.int .i64 0,.int .i64 0,.int .i64 0,.int .i64 0,.int .i64 0] 88));have R1:=qH (Blk.new2 w (.cells (rca r) 88) #[.int .u64 0,.int .u64 0,.int .u64 0,.int .u64 0,.int .u64 0,.int .u64 0,.int .u64 0,.int .u64 0,.int .u64 0,.int .u64 0,.int .u64 0,.int .u64 0,.int .u64 0,.int .u64 0,.int .u64 0,.int .u64 0,.int .u64 0,.int .u64 0,.int .u64 0,.int .u64 0,.int .u64 0,.int .u64 0,.int .u64 0,.int .u64 0,.int .i64 0,Value.slice none 0 0,.int .i64 0,.int .i64 0,.int .i64 0,.int .i64 0,.int .i64 0,.int .i64 0] 88);have HB:=qH ((below1 w (.cells (rca r) 88)).trans ((below1 (w.alloc (.cells (rca r) 88)) (.cells #[.int .u64 0,.int .u64 0,.int .u64 0,.int .u64 0,.int .u64 0,.int .u64 0,.int .u64 0,.int .u64 0,.int .u64 0,.int .u64 0,.int .u64 0,.int .u64 0,.int .u64 0,.int .u64 0,.int .u64 0,.int .u64 0,.int .u64 0,.int .u64 0,.int .u64 0,.int .u64 0,.int .u64 0,.int .u64 0,.int .u64 0,.int .u64 0,.int .i64 0,Value.slice none 0 0,.int .i64 0,.int .i64 0,.int .i64 0,.int .i64 0,.int .i64 0,.int .i64 0] 88)).mono (below1 w (.cells (rca r) 88)).size));have HS:=qH (Nat.succ_le_of_lt R1.out.lt);(go_enter Tryz.func67,Tryz.ntmps67);(go_upto_region 1 with fail);generalize(w.alloc (.cells (rca r) 88)).alloc (.cells #[.int .u64 0,.int .u64 0,.int .u64 0,.int .u64 0,.int .u64 0,.int .u64 0,.int .u64 0,.int .u64 0,.int .u64 0,.int .u64 0,.int .u64 0,.int .u64 0,.int .u64 0,.int .u64 0,.int .u64 0,.int .u64 0,.int .u64 0,.int .u64 0,.int .u64 0,.int .u64 0,.int .u64 0,.int .u64 0,.int .u64 0,.int .u64 0,.int .i64 0,Value.slice none 0 0,.int .i64 0,.int .i64 0,.int .i64 0,.int .i64 0,.int .i64 0,.int .i64 0] 88)=W at*;have HC:=qH (aclone_any (.slice r.q r.n r.c) r.u.acts hlen W (InA.below ha HB.out));clear ha;have k25:=R0.out.cellsR.2.2.1;(go_wp2_with(go_at_call 74;refine HC.out.mono ?_;rintro e w1 ⟨v,rfl,ho,hw1⟩;refine Hid.out ?_));obtain⟨q,c,rfl⟩:=ho.form;have R01:=qH (R0.out.below hw1);have R11:=qH (R1.out.below hw1);have HO:=qH ho;have HB1:=qH (HB.out.trans (hw1.mono HB.out.size));have HS1:=qH HS.out;clear ho hw1 R0 R1 HB HC k25;refine qH ?_;(go_wp2_with(refine storeCell rfl 38 _ _ rfl w.heap.size 25 (.slice q r.u.acts.length c) rfl rfl rfl (R01.out.there (by rw[rca_size];decide)) infoActs ?_;refine Hid.out ?_));have R02:=R01.out.one (k:=25) (.slice q r.u.acts.length c);rw[rca_acts] at R02;have R12:=R11.out.cother (g:=w.heap.size) (k:=25) (by omega) (.slice q r.u.acts.length c);have R2:=qH R02;have R3:=qH R12;have HO2:=qH (show OwnA W.heap.size ⟨r.u,q,r.u.acts.length,c⟩ (w1.setCell ⟨w.heap.size,25,none⟩ (.slice q r.u.acts.length c)) from KOwns.other HO.out fun g hg _=>heap_setCell_other _ _ _ _ (by have:=HS1.out;show g≠w.heap.size;omega));have HB2:=qH (HB1.out.setCell (Nat.le_refl _) (.slice q r.u.acts.length c) (p:=⟨w.heap.size,25,none⟩));clear R02 R12 R01 R11 HO HB1;generalize w1.setCell ⟨w.heap.size,25,none⟩ (.slice q r.u.acts.length c)=W2 at*;refine qH ?_;(go_wp2_with(first|(refine wpList_load_row rfl 88 _ rfl w.heap.size rfl 88 (rca ⟨r.u,q,r.u.acts.length,c⟩) (0,0) _ R2.out Tryz.underlying88 rfl infoR ?_)|(refine wpList_store_row rfl 88 _ _ rfl (w.heap.size+1) (rca ⟨r.u,q,r.u.acts.length,c⟩) rfl rfl 88 _ R3.out (by kernel_rfl) rfl (rca_one _) ?_)));have HB3:=qH (below_setRow HB2.out (show w.heap.size≤w.heap.size+1 by omega) (rca ⟨r.u,q,r.u.acts.length,c⟩));have HO3:=qH (show OwnA w.heap.size ⟨r.u,q,r.u.acts.length,c⟩ (W2.setRow (w.heap.size+1) (rca ⟨r.u,q,r.u.acts.length,c⟩)) from KOwns.mono (KOwns.other HO2.out fun g hg _=>setRow_other _ _ _ _ (by have:=HS1.out;omega)) (by have:=HS1.out;omega));have R4:=qH (R3.out.rset (rca ⟨r.u,q,r.u.acts.length,c⟩));clear HO2 HB2 R2 R3;refine bodyPost_ret (v:= .agg (rca ⟨r.u,q,r.u.acts.length,c⟩)) ?_ rfl ⟨_,rfl,rfl,HO3.out,HB3.out⟩;exact res_one Tryz.results67 (cs:=rca ⟨r.u,q,r.u.acts.length,c⟩) rfl R4.out Tryz.underlying88 rfl (by kernel_rfl)
theorem below_stM {B g o:Nat} {w W:World} (hb:Below B w W) (hs:B≤W.heap.size) (hB:B≤g) (vs:List Value):Below B w (W.setCells g o vs):=hb.grown (grown_stM vs o W) hs fun k e=>by injection e with e;omega
def CpS (B : Nat) (w : World) (g n : Nat) (L : List Rm) (W : World) : Prop := KAt KR g n L W ∧ (∀ r ∈ L, OwnA (g + 1) r W) ∧ Below B w W ∧ B ≤ g
section
variable {B : Nat} {w W W' : World} {g n : Nat} {L : List Rm} {r : Rm}
theorem CpS.lt (h:CpS B w g n L W):g<W.heap.size:=h.1.lt
theorem CpS.below (h:CpS B w g n L W) (hb:Below W.heap.size W W'):CpS B w g n L W':=⟨h.1.below hb,fun r hr=>(h.2.1 r hr).below hb,h.2.2.1.trans (hb.mono (by have:=h.lt;have:=h.2.2.2;omega)),h.2.2.2⟩
theorem CpS.push (h:CpS B w g n L W) (hr:OwnA (g+1) r W) {i:Nat} (he:i=L.length) (hi:i<n):CpS B w g n (L++[r]) (W.setCells g (i*32) (rcl r)):=by
 have ho:∀x:Rm,OwnA (g+1) x W→OwnA (g+1) x (W.setCells g (i*32) (rcl r)):=fun x hx=>KOwns.other hx fun k hk _=>heap_stM_other (by omega) _ _ _;refine⟨KAt.push okR h.1 he hi r,fun x hx=>?_,below_stM h.2.2.1 (by have:=h.lt;have:=h.2.2.2;omega) h.2.2.2 _,h.2.2.2⟩;rcases List.mem_append.1 hx with hx|hx
 ·exact ho x (h.2.1 x hx)
 ·simp only[List.mem_cons,List.not_mem_nil,or_false] at hx;subst hx;exact ho _ hr
end
def TabRet (w : World) (us : List Ru) (e : Ending) (w' : World) : Prop := ∃ g L, e = .returned (.slice (some ⟨g, 0, none⟩) L.length L.length) ∧ L.map (·.u) = us ∧ CpS w.heap.size w g L.length L w'
def zRu : Ru := ⟨fun _ => 0, 0, [], 0, 0, 0, 0, 0, 0⟩
def nthU (l : List Rm) (i : Nat) : Ru := match l[i]? with
  | some x => x.u
  | none => zRu
theorem nthU_at {l:List Rm} {i:Nat} {x:Rm} (h:l[i]? =some x):nthU l i=x.u:=by unfold nthU;rw[h]
theorem take_map_succ {l:List Rm} {r:Nat} {x:Rm} (h:l[r]? =some x):(l.take (r+1)).map (·.u)=(l.take r).map (·.u)++[x.u]:=by
 rw[List.take_add_one,h];simp
set_option maxHeartbeats 1000000 in
theorem copy_any (v:Value) (l:List Rm) (hlen:l.length≤100000) (hw:WfRL l) (w:World) (hl:RLies v l w):Calls Tryz.prog 35 #[v] w (TabRet w (l.map (·.u))):=by
 obtain⟨p,cap,rfl⟩:=hl.1.form;have HL:=qH hl;have HW:=qH hw;clear hl hw;(go_enter Tryz.func35,Tryz.ntmps35);(go_upto_region 2 with(refine kmake KR okR rfl _ _ rfl l.length rfl rfl (by omega) (fun w1 ha hb hlt=>?_)));have HC:=qH (show CpS w.heap.size w w.heap.size l.length [] w1 from⟨ha,fun r hr=>(by cases hr),hb,Nat.le_refl _⟩);clear ha hb hlt;(go_wp2_with fail);go_loopg [11] l.length (fun k i wr=>∃(r:Nat) (L:List Rm),r+k=l.length∧L.length=r∧i= .int .i64 r∧L.map (·.u)=(l.take r).map (·.u)∧CpS w.heap.size w w.heap.size l.length L wr)
 case atStart=>exact⟨0,[],by omega,rfl,rfl,rfl,HC.out⟩
 case round=>
  obtain⟨r,L,hr,hL,rfl,hu,hs⟩:=hrel;have HU:=qH hu;have HS:=qH hs;have HLL:=qH hL;clear hu hs HC hL;by_cases hlt:r<l.length
  ·have hltI:(r:Int)<(l.length:Int):=(by omega);obtain⟨x,hx⟩:=lt_some hlt;have HL1:=qH (HL.out.below HS.out.2.2.1);obtain⟨b,o,rfl,hrg⟩:=HL1.out.1.at hx;have HR:=qH hrg;have HX:=qH hx;have HA:=qH ((HL1.out.acts hx).below (below1 wr (.cells (rca x) 88)));have HWx:=qH (HW.out.at hx);clear hrg hx HL1;(go_upto_region 5 with(first|(refine wpList_load_mid rfl 88 _ rfl b (o+r*32) rfl (rcl x) _ HR.out Tryz.underlying88 rfl infoR ?_)|(refine wpList_store_row rfl 88 _ _ rfl wr.heap.size (rca x) rfl rfl 88 _ (heap_alloc_new _ _) (by kernel_rfl) rfl (rca_one _) ?_;rw[World.setRow_alloc_new])));have RX:=qH (Blk.new wr (rca x) 88);have HS1:=qH (HS.out.below (below1 wr (.cells (rca x) 88)));clear HR HS;generalize wr.alloc (.cells (rca x) 88)=W at*;have HC:=qH (rclone_any x HWx.out.room W HA.out);clear HA HWx;(go_wp2_with(first|(refine wpList_load_row rfl 88 _ rfl wr.heap.size rfl 88 (rca x) (0,0) _ RX.out Tryz.underlying88 rfl infoR ?_)|(go_at_call 67;refine HC.out.mono ?_;rintro e w2 ⟨y,rfl,hy,ho,hw2⟩;refine Hid.out ?_)));have HS2:=qH (HS1.out.below hw2);have HO:=qH (ho.mono (show w.heap.size+1≤W.heap.size from HS1.out.lt));have HY:=qH hy;clear ho hw2 hy HC RX HS1;refine qH ?_;(go_wp2_with(refine kstore KR okR infoR rfl _ _ rfl w.heap.size r l.length L y rfl rfl HS2.out.1 hlt ?_;refine Hid.out ?_));have HS3:=qH (HS2.out.push HO.out HLL.out.symm hlt);clear HS2 HO;generalize w2.setCells w.heap.size (r*32) (rcl y)=W3 at*;refine qH ?_;(go_wp2_with fail);go_roundg (l.length - (r+1))
   case measure=>omega
   case rel=>refine⟨r+1,L++[y],by omega,by simp[HLL.out],by go_num,?_,HS3.out⟩;rw[take_map_succ HX.out,List.map_append,HU.out,←HY.out];rfl
  ·have hltI:¬(r:Int)<(l.length:Int):=(by omega);have hr':r=l.length:=(by omega);have HT:=qH hr';(go_wp2_with fail);go_ret;have e:L.length=l.length:=HLL.out.trans HT.out;refine⟨w.heap.size,L,by rw[e];rfl,?_,?_⟩
   ·rw[HU.out,HT.out,List.take_length]
   ·rw[e];exact HS.out
theorem CpS.lies {B g:Nat} {w W:World} {L:List Rm} (h:CpS B w g L.length L W):RLies (.slice (some ⟨g,0,none⟩) L.length L.length) L W:=⟨h.1.lies _ rfl _ (Nat.le_refl _),fun r hr=>(h.2.1 r hr).inA⟩
def WfUL (us : List Ru) : Prop := ∀ u ∈ us, WfR u
theorem WfUL.of {l:List Rm} (h:WfRL l):WfUL (l.map (·.u)):=fun u hu=>by
 obtain⟨x,hx,rfl⟩:=List.mem_map.1 hu;exact h x hx
theorem WfUL.rl {l:List Rm} {us:List Ru} (h:WfUL us) (e:l.map (·.u)=us):WfRL l:=fun r hr=>h _ (by rw[←e];exact List.mem_map_of_mem hr)
structure TabAt (B : Nat) (v : Value) (us : List Ru) (g : Nat) (L : List Rm) (W : World) : Prop where
  is : L.map (·.u) = us
  val : v = .slice (some ⟨g, 0, none⟩) L.length L.length
  at_ : KAt KR g L.length L W
  own : ∀ r ∈ L, OwnA (g + 1) r W
  ge : B ≤ g
section
variable {B g : Nat} {v : Value} {us : List Ru} {L : List Rm} {W W' : World}
end
section
variable {α : Type} {K : Kd α} {g cap off : Nat} {l : List α} {W W' : World}
theorem KAt.cell (ok:K.Ok) (h:KAt K g cap l W) {i m:Nat} {a a':α} (hi:l[i]? =some a) (u:Value) (hm:m<K.n) (he:K.cells a'=(K.cells a).set m u):KAt K g cap (l.set i a') (W.setCell ⟨g,i*K.n+m,none⟩ u):=by
 obtain⟨h1,h2,cur,h3,h4,h5⟩:=h;have hil:i<l.length:=(List.getElem?_eq_some_iff.1 hi).1;refine⟨by simpa using h1,h2,cur.setIfInBounds (i*K.n+m) u,heap_setCell_same W g _ cur _ u h3,by simpa using h4,fun t b hb j v hv=>?_⟩;have hj:j<K.n:=(by have:=(List.getElem?_eq_some_iff.1 hv).1;rwa [ok.len] at this);have hin:i*K.n+K.n≤cur.size:=(by rw[h4];have:=Nat.mul_le_mul_right K.n (show i+1≤cap by omega);rw[Nat.succ_mul] at this;omega);rw[Array.getElem?_setIfInBounds];by_cases e:t=i
 ·subst e;have eb:b=a':=(by simpa [hil] using hb.symm);subst eb;rw[he] at hv;by_cases ej:j=m
  ·subst ej;rw[if_pos rfl,if_pos (by omega)];rw[List.getElem?_set_self (by rw[ok.len];exact hj)] at hv;exact hv
  ·rw[if_neg (by omega)];rw[List.getElem?_set_ne (Ne.symm ej)] at hv;exact h5 t a hi j v hv
 ·rw[List.getElem?_set_ne (Ne.symm e)] at hb;rw[if_neg ?_]
  ·exact h5 t b hb j v hv
  ·rcases Nat.lt_or_gt_of_ne e with q|q
   ·have:=Nat.mul_le_mul_right K.n (show t+1≤i from q);rw[Nat.succ_mul] at this;omega
   ·have:=Nat.mul_le_mul_right K.n (show i+1≤t from q);rw[Nat.succ_mul] at this;omega
theorem KAt.far (ok:K.Ok) (h:KAt K g cap l W) (u:Value) (ho:l.length*K.n≤off):KAt K g cap l (W.setCell ⟨g,off,none⟩ u):=by
 obtain⟨h1,h2,cur,h3,h4,h5⟩:=h;refine⟨h1,h2,cur.setIfInBounds off u,heap_setCell_same W g _ cur _ u h3,by simpa using h4,fun t b hb j v hv=>?_⟩;have hj:j<K.n:=(by have:=(List.getElem?_eq_some_iff.1 hv).1;rwa [ok.len] at this);have ht:t<l.length:=(List.getElem?_eq_some_iff.1 hb).1;rw[Array.getElem?_setIfInBounds,if_neg ?_]
 ·exact h5 t b hb j v hv
 ·have:=Nat.mul_le_mul_right K.n (show t+1≤l.length from ht);rw[Nat.succ_mul] at this;omega
theorem KOwns.kat (ok:K.Ok) {base:Nat} {v:Value} (h:KOwns K base v l W):(v= .slice none 0 0∧l=[])∨∃g cap,v= .slice (some ⟨g,0,none⟩) l.length cap∧base≤g∧KAt K g cap l W:=by
 rcases h.2 with⟨e,h0⟩|⟨g,cap,cur,rfl,hg,_⟩
 ·exact .inl ⟨e,List.length_eq_zero_iff.1 h0⟩
 ·exact .inr ⟨g,cap,rfl,hg,(KAt.of ok h).1⟩
theorem KOwns.keep {base:Nat} {v:Value} (h:KOwns K base v l W) (hb:∀k,v.ownBlock=some k→W'.heap[k]? =W.heap[k]?):KOwns K base v l W':=by
 rcases h with⟨h1,h2|⟨g,cap,cur,e1,e2,e3,e4⟩⟩
 ·exact⟨h1,.inl h2⟩
 ·exact⟨h1,.inr ⟨g,cap,cur,e1,e2,(hb g (by rw[e1];rfl)).trans e3,e4⟩⟩
end
theorem types_ne:88≠83:=by decide
theorem KOwns.apart {b1 b2:Nat} {v1 v2:Value} {l1:List Ac} {l2:List Rm} {W W':World} (h1:KOwns KA b1 v1 l1 W) (h2:KOwns KR b2 v2 l2 W) (hg:W.grownBy W' v2.ownBlock):KOwns KA b1 v1 l1 W':=by
 refine h1.keep fun k hk=>?_;rcases h1.2 with⟨e,_⟩|⟨g,cap,cur,e,_,e3,_⟩
 ·rw[e] at hk;cases hk
 ·rw[e] at hk;injection hk with hk;have hk':g=k:=hk;subst hk';refine hg.block g (Array.getElem?_eq_some_iff.1 e3).1 fun eo=>?_;rcases h2.2 with⟨e',_⟩|⟨g',cap',cur',e',_,e3',_⟩
  ·rw[e'] at eo;cases eo
  ·rw[e'] at eo;injection eo with eo;have eo':g=g':=eo;subst eo';rw[e3] at e3';injection e3' with e3';injection e3' with _ e3' _;exact types_ne e3'.symm
def Shp (g n : Nat) (C : List Rm) (f : Nat → Int) (W : World) : Prop :=
  ∃ D : List Rm, D.length = C.length ∧ KAt KR g n D W ∧ (∀ y ∈ D, OwnA (g + 1) y W) ∧ ∀ (j : Nat) y, D[j]? = some y → ∃ x, C[j]? = some x ∧ y.q = x.q ∧ y.n = x.n ∧ y.c = x.c ∧ y.u.p = f j
section
variable {g n : Nat} {C : List Rm} {f : Nat → Int} {W W' : World}
theorem own_port {b k j:Nat} {v:Value} {acts:List Ac} {cur:Array Value} (h:KOwns KA b v acts W) (hk:W.heap[k]? =some (.cells cur 83 (0,0))) (x:Int):∃acts',acts'.length=acts.length∧KOwns KA b v acts' (W.setCell ⟨k,j*4+1,none⟩ (.int .i64 x)):=by
 rcases h.kat okA with⟨rfl,rfl⟩|⟨g',cp,rfl,hb,hA⟩
 ·exact⟨[],rfl,KOwns.nil _ _⟩
 ·by_cases e:g'=k
  ·subst e;cases ha:acts[j]? with
   |none=>have hle:acts.length≤j:=(by rw[List.getElem?_eq_none_iff] at ha;exact ha);exact⟨acts,rfl,KAt.owns okA (hA.far okA (off:=j*4+1) (.int .i64 x) (by show acts.length*4≤j*4+1;omega)) hb⟩
   |some a=>have h2:=hA.cell okA (m:=1) (a':={ a with p:=x}) ha (.int .i64 x) (by decide) rfl;refine⟨acts.set j { a with p:=x},by simp,?_⟩;have h3:=KAt.owns okA h2 hb;rw[List.length_set] at h3;exact h3
  ·refine⟨acts,rfl,h.keep fun k' hk'=>?_⟩;injection hk' with hk';have ek:g'=k':=hk';exact heap_setCell_other _ _ _ _ (by rw[←ek];exact e)
theorem Shp.port (h:Shp g n C f W) {k j:Nat} {cur:Array Value} (hk:W.heap[k]? =some (.cells cur 83 (0,0))) (x:Int):Shp g n C f (W.setCell ⟨k,j*4+1,none⟩ (.int .i64 x)):=by
 obtain⟨D,h1,h2,h3,h4⟩:=h;have hgk:g≠k:=fun e=>(by subst e;obtain⟨_,_,cur',e3,_⟩:=h2;rw[hk] at e3;injection e3 with e3;injection e3 with _ e3 _;exact types_ne e3.symm);have hrow:∀D':List Rm,D'.map rcl=D.map rcl→KAt KR g n D' (W.setCell ⟨k,j*4+1,none⟩ (.int .i64 x)):=fun D' he=>by
  obtain⟨q1,q2,cur',q3,q4,q5⟩:=h2;have hl:D'.length=D.length:=(by simpa using congrArg List.length he);refine⟨by rw[hl];exact q1,q2,cur',(heap_setCell_other _ _ _ _ hgk).trans q3,q4,fun i a ha t u hu=>?_⟩;have hh:=congrArg (·[i]?) he;simp only[List.getElem?_map,ha,Option.map_some] at hh;cases hd:D[i]? with
  |none=>rw[hd] at hh;cases hh
  |some d=>rw[hd] at hh;simp only[Option.map_some,Option.some.injEq] at hh;exact q5 i d hd t u (by show(rcl d)[t]? =some u;rw[←hh];exact hu)
 have pick:∀y,y∈D→∃acts',acts'.length=y.u.acts.length∧KOwns KA (g+1) (.slice y.q y.n y.c) acts' (W.setCell ⟨k,j*4+1,none⟩ (.int .i64 x)):=fun y hy=>own_port (h3 y hy) hk x;have pick2:∃F:Rm→List Ac,∀y,y∈D→KOwns KA (g+1) (.slice y.q y.n y.c) (F y) (W.setCell ⟨k,j*4+1,none⟩ (.int .i64 x)):=by
  classical
  refine⟨fun y=>if hy:∃acts',KOwns KA (g+1) (.slice y.q y.n y.c) acts' (W.setCell ⟨k,j*4+1,none⟩ (.int .i64 x)) then Classical.choose hy else[],fun y hy=>?_⟩;obtain⟨a',_,ha'⟩:=pick y hy;have he:∃acts',KOwns KA (g+1) (.slice y.q y.n y.c) acts' (W.setCell ⟨k,j*4+1,none⟩ (.int .i64 x)):=⟨a',ha'⟩;simp only[dif_pos he];exact Classical.choose_spec he
 obtain⟨F,hF⟩:=pick2;refine⟨D.map fun y=>⟨{ y.u with acts:=F y},y.q,y.n,y.c⟩,by simpa using h1,hrow _ (by rw[List.map_map];rfl),fun y hy=>?_,fun i y hy=>?_⟩
 ·obtain⟨d,hd,rfl⟩:=List.mem_map.1 hy;exact hF d hd
 ·rw[List.getElem?_map,Option.map_eq_some_iff] at hy;obtain⟨d,hd,rfl⟩:=hy;exact h4 i d hd
theorem Shp.prio (h:Shp g n C f W) {i:Nat} (x:Int) (hi:i<C.length):Shp g n C (fun j=>if j=i then x else f j) (W.setCell ⟨g,i*32+24,none⟩ (.int .i64 x)):=by
 obtain⟨D,h1,h2,h3,h4⟩:=h;obtain⟨y,hy⟩:=lt_some (l:=D) (i:=i) (by omega);have h5:=h2.cell okR (m:=24) (a':=⟨{ y.u with p:=x},y.q,y.n,y.c⟩) hy (.int .i64 x) (by decide) rfl;refine⟨D.set i ⟨{ y.u with p:=x},y.q,y.n,y.c⟩,by simpa using h1,h5,fun z hz=>?_,fun j z hz=>?_⟩
 ·have keep:∀d,d∈D→OwnA (g+1) d (W.setCell ⟨g,i*32+24,none⟩ (.int .i64 x)):=fun d hd=>KOwns.other (h3 d hd) fun k hk _=>heap_setCell_other _ _ _ _ (by show k≠g;omega);rcases List.mem_or_eq_of_mem_set hz with hz|rfl
  ·exact keep z hz
  ·exact keep y (List.mem_of_getElem? hy)
 ·by_cases e:j=i
  ·subst e;have hz':z=⟨{ y.u with p:=x},y.q,y.n,y.c⟩:=(by have hlt:=(List.getElem?_eq_some_iff.1 hy).1;simpa [hlt] using hz.symm);subst hz';obtain⟨c,hc,e1,e2,e3,_⟩:=h4 j y hy;exact⟨c,hc,e1,e2,e3,by simp⟩
  ·rw[List.getElem?_set_ne (Ne.symm e)] at hz;obtain⟨c,hc,e1,e2,e3,e4⟩:=h4 j z hz;exact⟨c,hc,e1,e2,e3,by show z.u.p=if j=i then x else f j;rw[e4,if_neg e]⟩
end
section
variable {g n i j : Nat} {C : List Rm} {f : Nat → Int} {W : World} {x : Rm}
end
def InS (w0 : World) (vin : Value) (In : List Rm) (W : World) : Prop := KOwns KR w0.heap.size vin In W ∧ (∀ y ∈ In, OwnA w0.heap.size y W) ∧ Below w0.heap.size w0 W
section
variable {w0 W W' : World} {vin : Value} {In : List Rm}
end
end Go.Proofs.YtomnpfbebimpkaaGreatDoor
