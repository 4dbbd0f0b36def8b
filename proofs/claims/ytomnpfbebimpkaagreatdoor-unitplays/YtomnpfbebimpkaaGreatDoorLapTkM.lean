/-
  Two lists of rules that grow beside each other.
-/
import Derived.Test.YtomnpfbebimpkaaGreatDoorPackRule
import Derived.Test.YtomnpfbebimpkaaGreatDoorSq
import Derived.Maps.AppendAt
namespace Go.Proofs.YtomnpfbebimpkaaGreatDoor
set_option maxRecDepth 20000
def moreI (a n : Int) : Int := if 4611686018427387904 < a then a else if 4611686018427387904 - n < a then 4611686018427387904 else a + n
def clampN (n : Int) : Int := if n < 0 then 0 else if 1048576 < n then 1048576 else n
def tickU (n : Int) (u : Ru) : Ru := { u with quiet := moreI u.quiet n, age := moreI u.age n }
def goneB (u : Ru) : Bool := (decide (0 < u.hard) && decide (u.hard ≤ u.age)) || (decide (0 < u.idle) && decide (u.idle ≤ u.quiet))
def hitU (u : Ru) : Ru := { u with hits := moreI u.hits 1, quiet := 0 }
def leftL (n : Int) (us : List Ru) : List Ru := (us.map (tickU n)).filter fun u => !goneB u
def goneL (n : Int) (us : List Ru) : List Ru := (us.map (tickU n)).filter goneB
theorem clamp_range (n:Int):0≤clampN n∧clampN n≤1048576:=by unfold clampN;split<;>(try split)<;>omega
theorem more_range {a n:Int} (ha:I64 a) (h0:0≤n) (h1:n≤1048576):I64 (moreI a n):=by
 unfold I64 moreI at*;split<;>(try split)<;>omega
theorem left_gone_len (n:Int) (us:List Ru):(leftL n us).length+(goneL n us).length=us.length:=by
 induction us with
 |nil=>rfl
 |cons u us ih=>unfold leftL goneL at*;rw[List.map_cons,List.filter_cons,List.filter_cons];cases goneB (tickU n u)<;>simp<;>omega
def hitL (at_ : Int) (us : List Ru) : List Ru := if 0 ≤ at_ then us.modify at_.toNat hitU else us
end Go.Proofs.YtomnpfbebimpkaaGreatDoor

namespace Go.Proofs.YtomnpfbebimpkaaGreatDoor
set_option maxRecDepth 20000
open Go.RowKit
theorem rca_set {r r':Rm} {j:Nat} {v:Value} (hm:r'.u.m=r.u.m) (h:rtl r'=(rtl r).set j v):(rca r).setIfInBounds (24+j) v=rca r':=by
 apply Array.ext';simp only[rca,rcl,Array.toList_setIfInBounds];rw[List.set_append_right _ _ (by simp[cl]),hm,h];simp[cl]
theorem rca_quiet (r:Rm) (x:Int):(rca r).setIfInBounds 30 (.int .i64 x)=rca ⟨{ r.u with quiet:=x},r.q,r.n,r.c⟩:=rca_set (j:=6) rfl rfl
theorem rca_age (r:Rm) (x:Int):(rca r).setIfInBounds 31 (.int .i64 x)=rca ⟨{ r.u with age:=x},r.q,r.n,r.c⟩:=rca_set (j:=7) rfl rfl
theorem Blk.quiet {b:Nat} {r:Rm} {t:TypeId} {W:World} (h:Blk b (rca r) t W) (x:Int):Blk b (rca ⟨{ r.u with quiet:=x},r.q,r.n,r.c⟩) t (W.setCell ⟨b,30,none⟩ (.int .i64 x)):=by
 rw[←rca_quiet];exact h.one _
theorem Blk.age {b:Nat} {r:Rm} {t:TypeId} {W:World} (h:Blk b (rca r) t W) (x:Int):Blk b (rca ⟨{ r.u with age:=x},r.q,r.n,r.c⟩) t (W.setCell ⟨b,31,none⟩ (.int .i64 x)):=by
 rw[←rca_age];exact h.one _
theorem rcl_num {r r':Rm} {j:Nat} {v:Value} (hm:r'.u.m=r.u.m) (h:rtl r'=(rtl r).set j v):rcl r'=(rcl r).set (24+j) v:=by
 unfold rcl;rw[List.set_append_right _ _ (by simp[cl]),hm,h];simp[cl]
theorem rcl_hits (r:Rm) (x:Int):rcl ⟨{ r.u with hits:=x},r.q,r.n,r.c⟩=(rcl r).set 29 (.int .i64 x):=rcl_num (j:=5) rfl rfl
theorem rcl_quiet (r:Rm) (x:Int):rcl ⟨{ r.u with quiet:=x},r.q,r.n,r.c⟩=(rcl r).set 30 (.int .i64 x):=rcl_num (j:=6) rfl rfl
end Go.Proofs.YtomnpfbebimpkaaGreatDoor

namespace Go.Proofs.YtomnpfbebimpkaaGreatDoor
set_option maxRecDepth 20000
open Go.RowKit
theorem over_any (a b:Int) (w:World):Calls Tryz.prog 82 #[.int .i64 a,.int .i64 b] w fun e w'=>e= .returned (.bool (decide (0<a)&&decide (a≤b)))∧w'=w:=by
 obtain⟨x,hx⟩:∃x,x=(decide (0<a)&&decide (a≤b)):=⟨_,rfl⟩;have HX:=qH hx;rw[←hx];clear hx;by_cases h:0<a
 ·(go_enter Tryz.func82,Tryz.ntmps82);go_wp2;go_ret;exact⟨ret_bool (by rw[HX.out];simp[h]),rfl⟩
 ·(go_enter Tryz.func82,Tryz.ntmps82);go_wp2;go_ret;exact⟨ret_bool (by rw[HX.out];simp;omega),rfl⟩
theorem plus_any (a n:Int) (ha:I64 a) (h0:0≤n) (h1:n≤1048576) (w:World):Calls Tryz.prog 81 #[.int .i64 a,.int .i64 n] w fun e w'=>e= .returned (.int .i64 (moreI a n))∧w'=w:=by
 obtain⟨x,hx⟩:∃x,x=moreI a n:=⟨_,rfl⟩;rw[←hx];unfold moreI at hx;have HX:=qH hx;clear hx;have hr:=ha.1;have hr2:=ha.2;by_cases h:4611686018427387904<a
 ·(go_enter Tryz.func81,Tryz.ntmps81);go_wp2;go_ret;exact⟨ret_int (by rw[HX.out,if_pos h]),rfl⟩
 ·have hwr:IntKind.i64.wrap (a+n)=a+n:=(by rw[IntKind.wrap_i64];omega);(go_enter Tryz.func81,Tryz.ntmps81);go_wp2;go_ret;exact⟨ret_int (by rw[HX.out,if_neg (by omega)];split<;>omega),rfl⟩
theorem rmore_any (a n:Int) (ha:I64 a) (h0:0≤n) (h1:n≤1048576) (w:World):Calls Tryz.prog 90 #[.int .i64 a,.int .i64 n] w fun e w'=>e= .returned (.int .i64 (moreI a n))∧w'=w:=by
 obtain⟨x,hx⟩:∃x,x=moreI a n:=⟨_,rfl⟩;rw[←hx];unfold moreI at hx;have HX:=qH hx;clear hx;have hr:=ha.1;have hr2:=ha.2;have hws:IntKind.i64.wrap (4611686018427387904 - n)=4611686018427387904 - n:=(by rw[IntKind.wrap_i64];omega);by_cases h:4611686018427387904<a
 ·(go_enter Tryz.func90,Tryz.ntmps90);go_wp2;go_ret;exact⟨ret_int (by rw[HX.out,if_pos h]),rfl⟩
 ·by_cases h':4611686018427387904 - n<a
  ·(go_enter Tryz.func90,Tryz.ntmps90);go_wp2;go_ret;exact⟨ret_int (by rw[HX.out,if_neg (by omega),if_pos (by omega)]),rfl⟩
  ·have hwr:IntKind.i64.wrap (a+n)=a+n:=(by rw[IntKind.wrap_i64];omega);(go_enter Tryz.func90,Tryz.ntmps90);go_wp2;go_ret;exact⟨ret_int (by rw[HX.out,if_neg (by omega),if_neg (by omega)]),rfl⟩
end Go.Proofs.YtomnpfbebimpkaaGreatDoor

namespace Go.Proofs.YtomnpfbebimpkaaGreatDoor
set_option maxRecDepth 20000
open Go.RowKit
theorem kappendW {α:Type} (K:Kd α) (ok:K.Ok) {ops:Array Oper} {rest:List Oper} {o:Oper} {a:Act} {w:World} {Q:Exit→Act→World→Prop} (hgd:o.guard=none) (s x:Operand) (ho:o.op= .call { callee:= .builtin .append,args:=#[s,x],argTypes:=#[K.S,K.S]}) (base:Nat) (v:Value) (l k:List α) (hs:a.eval s=v) (hown:KOwns K base v l w) (u:Value) (hx:a.eval x=u) (hk:KLies K u k w) (hbase:base≤w.heap.size) (hlen:l.length+k.length≤1000000) (h:∀v' w',KOwns K base v' (l++k) w'→w.grownBy w' v.ownBlock→(v'.ownBlock=v.ownBlock∨v'.ownBlock=some w.heap.size)→wpList Tryz.prog ops Q rest (a.put o.dst v') w'):wpList Tryz.prog ops Q (o::rest) a w:=by
 obtain⟨i,z,hi,hz,hsz,hby,hc⟩:=ok.info;have hl:=ok.light hlen;have hnm:l.length+k.length≤140737488355328:=(by omega);rcases hk with⟨rfl,rfl⟩|⟨ad,cap,rfl,hcap,hr⟩
 ·refine wpList_append_own_none hgd s x K.S ho base K.T i K.n ok.under hi v l.length (K.flat l) hs hown hx (h v w ?_ ⟨rfl,rfl,rfl,Nat.le_refl _,fun _ _ _=>rfl⟩ (.inl rfl));rw[List.append_nil];exact hown
 ·refine wpList_append_own_at w hgd s x K.S ho base K.T i z K.n K.room ok.under hi hz hsz hby hc ok.pos v l.length (K.flat l) hs hown ad k.length cap (K.flat k) hx (ok.flat_len k) (KLies.news (.inr ⟨ad,cap,rfl,hcap,hr⟩) ok) (ok.flat_one k) (by unfold maxLen;omega) hl hbase fun v' w' h1 h2 _ h4=>h v' w' ?_ h2 h4;unfold KOwns;rw[List.length_append,K.flat_append];exact h1
def Apt (v1 v2 : Value) : Prop := ∀ k, v1.ownBlock = some k → v2.ownBlock ≠ some k
theorem Apt.symm {v1 v2:Value} (h:Apt v1 v2):Apt v2 v1:=fun k h2 h1=>h k h1 h2
theorem KOwns.blk_lt {α:Type} {K:Kd α} {base:Nat} {v:Value} {l:List α} {W:World} (h:KOwns K base v l W) {k:Nat} (hk:v.ownBlock=some k):k<W.heap.size:=by
 rcases h.2 with⟨e,_⟩|⟨g,cap,cur,e,_,e3,_⟩
 ·rw[e] at hk;cases hk
 ·rw[e] at hk;injection hk with hk;have hk':g=k:=hk;subst hk';exact(Array.getElem?_eq_some_iff.1 e3).1
theorem KOwns.besides {β:Type} {K':Kd β} {b1:Nat} {v1 v1' v2:Value} {l2:List β} {W W':World} (h2:KOwns K' b1 v2 l2 W) (hd:Apt v1 v2) (hg:W.grownBy W' v1.ownBlock) (hn:v1'.ownBlock=v1.ownBlock∨v1'.ownBlock=some W.heap.size):KOwns K' b1 v2 l2 W'∧Apt v1' v2:=by
 refine⟨h2.keep fun k hk=>hg.block k (h2.blk_lt hk) fun e=>hd k e.symm hk,fun k hk=>?_⟩;rcases hn with e|e
 ·rw[e] at hk;exact hd k hk
 ·rw[e] at hk;injection hk with hk;intro h;have:=h2.blk_lt h;omega
structure Stab (P : Rm → World → Prop) : Prop where
  below : ∀ {r : Rm} {W W' : World}, P r W → Below W.heap.size W W' → P r W'
  grown : ∀ {r : Rm} {W W' : World} {b : Nat} {v : Value} {l : List Rm}, P r W → KOwns KR b v l W → W.grownBy W' v.ownBlock → P r W'
theorem stab_own (base:Nat):Stab (OwnA base):=⟨fun h hb=>OwnA.below h hb,fun h ho hg=>KOwns.apart h ho hg⟩
def FromL (l : List Rm) (r : Rm) : Prop := ∀ W : World, (∀ x ∈ l, InA x W) → InA r W
theorem stab_from (l:List Rm):Stab (fun r _=>FromL l r):=⟨fun h _=>h,fun h _ _=>h⟩
structure TkS (P : Rm → World → Prop) (w0 : World) (va : Value) (A : List Rm) (vb : Value) (B : List Rm) (W : World) : Prop where
  a : KOwns KR w0.heap.size va A W
  b : KOwns KR w0.heap.size vb B W
  apt : Apt va vb
  pa : ∀ r ∈ A, P r W
  pb : ∀ r ∈ B, P r W
  kept : Below w0.heap.size w0 W
section
variable {P : Rm → World → Prop} {w0 W W' : World} {va vb v' : Value} {A B : List Rm} {r : Rm}
theorem TkS.start (P:Rm→World→Prop) (w:World):TkS P w (.slice none 0 0) [] (.slice none 0 0) [] w:=⟨KOwns.nil _ _,KOwns.nil _ _,fun _ h=>(by cases h),fun _ h=>(by cases h),fun _ h=>(by cases h),Below.refl _ _⟩
theorem TkS.below (hP:Stab P) (hb:Below W.heap.size W W') (h:TkS P w0 va A vb B W):TkS P w0 va A vb B W':=⟨h.a.below hb,h.b.below hb,h.apt,fun r hr=>hP.below (h.pa r hr) hb,fun r hr=>hP.below (h.pb r hr) hb,h.kept.trans (hb.mono h.kept.size)⟩
theorem TkS.symm (h:TkS P w0 va A vb B W):TkS P w0 vb B va A W:=⟨h.b,h.a,h.apt.symm,h.pb,h.pa,h.kept⟩
theorem TkS.push (hP:Stab P) (h:TkS P w0 va A vb B W) (hr:P r W) (ho:KOwns KR w0.heap.size v' (A++[r]) W') (hg:W.grownBy W' va.ownBlock) (hn:v'.ownBlock=va.ownBlock∨v'.ownBlock=some W.heap.size):TkS P w0 v' (A++[r]) vb B W':=by
 obtain⟨hb,hd⟩:=h.b.besides h.apt hg hn;refine⟨ho,hb,hd,fun x hx=>?_,fun x hx=>hP.grown (h.pb x hx) h.a hg,kbelowOwn h.kept h.a (Nat.le_refl _) hg⟩;rcases List.mem_append.1 hx with hx|hx
 ·exact hP.grown (h.pa x hx) h.a hg
 ·simp only[List.mem_cons,List.not_mem_nil,or_false] at hx;subst hx;exact hP.grown hr h.a hg
end
theorem left_snoc (n:Int) (us:List Ru) (u:Ru):leftL n (us++[u])=leftL n us++(if goneB (tickU n u) then[] else[tickU n u]):=by
 unfold leftL;rw[List.map_append,List.filter_append];congr 1;cases h:goneB (tickU n u)<;>simp[h]
theorem gone_snoc (n:Int) (us:List Ru) (u:Ru):goneL n (us++[u])=goneL n us++(if goneB (tickU n u) then[tickU n u] else[]):=by
 unfold goneL;rw[List.map_append,List.filter_append];congr 1;cases h:goneB (tickU n u)<;>simp[h]
def TickRet (P : Nat → Rm → World → Prop) (w : World) (m : Int) (us : List Ru) (e : Ending) (w' : World) : Prop :=
  ∃ va vb A B, e = .returned (.tuple #[va, vb]) ∧ A.map (·.u) = leftL m us ∧ B.map (·.u) = goneL m us ∧ TkS (P w.heap.size) w va A vb B w'
theorem clamp_min (n:Int):min (max n 0) 1048576=clampN n:=by unfold clampN;split<;>(try split)<;>omega
theorem TkS.mono {P:Rm→World→Prop} {w w1 W:World} {va vb:Value} {A B:List Rm} (h:TkS P w1 va A vb B W) (hb:Below w.heap.size w w1):TkS P w va A vb B W:=⟨h.a.mono hb.size,h.b.mono hb.size,h.apt,h.pa,h.pb,hb.trans (h.kept.mono hb.size)⟩
theorem infoInt:(Tryz.prog.info? 3).map (·.size)=some 1:=by kernel_rfl
end Go.Proofs.YtomnpfbebimpkaaGreatDoor
