/- Several of my texts as one: Seq, HeadTab, HeadRef, HeadLaw, HeadVal, HeadSnd, HeadSet, HeadCmp. -/
import Derived.Test.YtomnpfbebimpkaaGreatDoorProg
import Derived.WalkKit
import Derived.Deep.RegionHeld3
import Derived.StillTailTactics
import Derived.Lib.Hide
import Derived.WalkSpells
import Derived.WalkLawsBesides
import Derived.Deep.QuietTactic
import Derived.BigQuiet
import Derived.Deep.WholeRow
import Derived.Laws.CopyOwn
import Derived.Deep.RegionWith
import Derived.ChangeKeysEq
/-
  A region whose order is drawn, walked by hand in one order: what only reads yields its value in every world that meets S; a call comes up alone.
-/
namespace Go.Proofs.YtomnpfbebimpkaaGreatDoor
set_option maxRecDepth 20000
section
variable {P : Program} {Q : Exit → Act → World → Prop} {S : World → Prop} {l : List Oper} {fuel : Nat} {listed : Array Bool} {a : Act} {w : World} {oi : Oper}
theorem seqRead (i:Nat) {v:Value} (hi:l[i]? =some oi) (hs:Region.noSelect l.toArray=true) (hf:Region.free .any l.toArray listed i=true) (hr:(Region.ready .any l.toArray listed).contains i=true) (hQ:∀c a w,Q (.panic c) (a.put oi.dst v) w→Q (.panic c) a w) (hw:Region.wanted oi (yielded l.toArray a.tmps)=true) (hv:∀w,S w→(execOp a.eval oi).run P w= .ok (.value v) w) (hS:S w) (h:wpAnyH P .any l.toArray Q S fuel (listed.setIfInBounds i true) (a.put oi.dst v) w):wpAnyH P .any l.toArray Q S (fuel+1) listed a w:=wpAnyH_take (by simpa using hi) hs hf hr hQ (.inl ⟨hw,hv⟩) hS h
theorem seqSkip (i:Nat) (hi:l[i]? =some oi) (hs:Region.noSelect l.toArray=true) (hf:Region.free .any l.toArray listed i=true) (hr:(Region.ready .any l.toArray listed).contains i=true) (hQ:∀c a w,Q (.panic c) (a.put oi.dst undef) w→Q (.panic c) a w) (hw:Region.wanted oi (yielded l.toArray a.tmps)=false) (hS:S w) (h:wpAnyH P .any l.toArray Q S fuel (listed.setIfInBounds i true) (a.put oi.dst undef) w):wpAnyH P .any l.toArray Q S (fuel+1) listed a w:=wpAnyH_take (by simpa using hi) hs hf hr hQ (.inr ⟨hw,rfl⟩) hS h
theorem seqCall (i:Nat) (hi:l[i]? =some oi) (hr:Region.ready .any l.toArray listed=[i]) (hw:Region.wanted oi (yielded l.toArray a.tmps)=true) (h:∀K:Act→World→Prop,Shut (∀a w,S w→(S w→wpAnyH P .any l.toArray Q S fuel (listed.setIfInBounds i true) a w)→K a w)→Oper.wp P oi a w K Q):wpAnyH P .any l.toArray Q S (fuel+1) listed a w:=wpAnyH_ready hr (by simp) (AllReadyH.cons (o:=oi) (by simpa using hi) (fun K hK=>by rw[if_pos hw];exact h K hK) AllReadyH.nil)
theorem seqActs2 {oj:Oper} (i j:Nat) (hi:l[i]? =some oi) (hj:l[j]? =some oj) (hr:Region.ready .any l.toArray listed=[i,j]) (wi:Region.wanted oi (yielded l.toArray a.tmps)=true) (h1:∀K:Act→World→Prop,Shut (∀a w,S w→(S w→wpAnyH P .any l.toArray Q S fuel (listed.setIfInBounds i true) a w)→K a w)→Oper.wp P oi a w K Q) (wj:Region.wanted oj (yielded l.toArray a.tmps)=true) (h2:∀K:Act→World→Prop,Shut (∀a w,S w→(S w→wpAnyH P .any l.toArray Q S fuel (listed.setIfInBounds j true) a w)→K a w)→Oper.wp P oj a w K Q):wpAnyH P .any l.toArray Q S (fuel+1) listed a w:=wpAnyH_ready hr (by simp) (AllReadyH.cons (o:=oi) (by simpa using hi) (fun K hK=>by rw[if_pos wi];exact h1 K hK) (AllReadyH.cons (o:=oj) (by simpa using hj) (fun K hK=>by rw[if_pos wj];exact h2 K hK) AllReadyH.nil))
theorem seqDone (hr:Region.ready .any l.toArray listed=[]) (h:Q .normal a w):wpAnyH P .any l.toArray Q S fuel listed a w:=wpAnyH_done hr h fuel
theorem execRow {ty:TypeId} {x:Operand} (ho:oi.op= .load ty x) (b o:Nat) (hx:a.eval x= .pointer (some ⟨b,o,none⟩)) (cs:List Value) (d:TypeDesc) (hc:w.rangeAt b o cs) (hu:P.underlying ty=some d) (hd:d.isRow=true) (hi:(P.info? ty).map (·.size)=some cs.length):(execOp a.eval oi).run P w= .ok (.value (.agg cs.toArray)) w:=by
 unfold execOp;simp only[ho,hx,Instr.loadAt,Instr.sureAddr,Sem.run_bind,Sem.run_pure,Result.andThen_ok,run_loadVar_mid w b o ty cs d hc hu hd hi]
end
theorem regionTail {P:Program} {id:Nat} {Q:Exit→Act→World→Prop} {a:Act} {w:World} {l:List Oper} (n:Nat) (hm:P.follows .mixedOrders=true) (hB:Region.lexTailB .any l.toArray n=true) (h:∀W,RowKit.Hid (W=w.drew)→wpStill P l.toArray W (fun a'=>wpList P l.toArray Q (l.drop n) a' W) (l.take n) a):(Code.region id l.toArray true).wp P Q a w:=wp_region_still_tail n hm hB (h _ (Lib.hid rfl))
open Go.RowKit
def sz : Nat → Int
  | 0 => 16 | 1 => 48 | 2 => 48 | 3 => 16 | 4 => 12 | 5 => 4 | 6 => 32 | 7 => 32 | 8 => 8 | 9 => 8 | 10 => 12 | 11 => 12 | _ => 0
def nm : Nat → ByteArray
  | 0 => ⟨#[105, 110]⟩ | 1 => ⟨#[101, 115, 114, 99]⟩ | 2 => ⟨#[101, 100, 115, 116]⟩ | 3 => ⟨#[101, 116, 121, 112, 101]⟩ | 4 => ⟨#[118, 108, 97, 110]⟩ | 5 => ⟨#[112, 99, 112]⟩
  | 6 => ⟨#[115, 114, 99]⟩ | 7 => ⟨#[100, 115, 116]⟩ | 8 => ⟨#[112, 114, 111, 116, 111]⟩ | 9 => ⟨#[116, 111, 115]⟩ | 10 => ⟨#[115, 112, 111, 114, 116]⟩ | 11 => ⟨#[100, 112, 111, 114, 116]⟩ | _ => ⟨#[]⟩
def tabArr : Array Value := #[.string (nm 0), .int .i64 (sz 0), .string (nm 1), .int .i64 (sz 1), .string (nm 2), .int .i64 (sz 2), .string (nm 3), .int .i64 (sz 3), .string (nm 4), .int .i64 (sz 4), .string (nm 5), .int .i64 (sz 5), .string (nm 6), .int .i64 (sz 6), .string (nm 7), .int .i64 (sz 7), .string (nm 8), .int .i64 (sz 8), .string (nm 9), .int .i64 (sz 9), .string (nm 10), .int .i64 (sz 10), .string (nm 11), .int .i64 (sz 11)]
def Tab (w : World) : Prop := (∀ k, k < 12 → w.cell? ⟨0, k * 2, none⟩ = some (.string (nm k)) ∧ w.cell? ⟨0, k * 2 + 1, none⟩ = some (.int .i64 (sz k))) ∧ ∃ t fr, w.heap[0]? = some (.cells tabArr t fr)
theorem known_in (n:Int) (w:World) (h0:0≤n) (h1:n<12):Calls Tryz.prog 117 #[.int .i64 n] w fun e w'=>e= .returned (.bool true)∧w=w':=by
 (go_enter Tryz.func117,Tryz.ntmps117);go_wp2;go_ret;exact⟨rfl,rfl⟩
theorem known_out (n:Int) (w:World) (h:n<0∨12≤n):Calls Tryz.prog 117 #[.int .i64 n] w fun e w'=>e= .returned (.bool false)∧w=w':=by
 rcases h with h|h
 ·(go_enter Tryz.func117,Tryz.ntmps117);go_wp2;go_ret;exact⟨rfl,rfl⟩
 ·have h':0≤n:=(by omega);have hd:decide (n<12)=false:=(by simpa using h);(go_enter Tryz.func117,Tryz.ntmps117);go_wp2;go_ret;exact⟨rfl,rfl⟩
def mkv (k b : Nat) : Int := (2 ^ (min k b) - 1) * 2 ^ (k - b)
theorem pow_pos' (n:Nat):(0:Int)<2 ^ n:=by exact_mod_cast Nat.two_pow_pos n
theorem pow_le' {a b:Nat} (h:a≤b):(2:Int) ^ a≤2 ^ b:=by exact_mod_cast Nat.pow_le_pow_right (by decide) h
theorem u64_in {x:Int} (h0:0≤x) (h1:x<2 ^ 64):IntKind.u64.wrap x=x:=IntWalk.u64_in x (by omega)
theorem sz_le (k:Nat):0≤sz k∧sz k≤48:=by
 unfold sz;split<;>omega
theorem first_hit (p:Nat→Bool):∀n:Nat,(∀m,m<n→p m=false)∨∃j,j<n∧(∀m,m<j→p m=false)∧p j=true
 |0=>Or.inl fun m h=>absurd h (by omega)
 |n+1=>by
  rcases first_hit p n with h|⟨j,hj,h1,h2⟩
  ·cases hp:p n
   ·refine Or.inl fun m hm=>?_;by_cases e:m=n
    ·rw[e,hp]
    ·exact h m (by omega)
   ·exact Or.inr ⟨n,by omega,h,hp⟩
  ·exact Or.inr ⟨j,by omega,h1,h2⟩
theorem szl:∀(k:Nat) (h:k<12),([.int .i64 16,.int .i64 48,.int .i64 48,.int .i64 16,.int .i64 12,.int .i64 4,.int .i64 32,.int .i64 32,.int .i64 8,.int .i64 8,.int .i64 12,.int .i64 12]:List Value)[k]'(by simpa using h)= .int .i64 (sz k)
 |0,_=>rfl
 |1,_=>rfl
 |2,_=>rfl
 |3,_=>rfl
 |4,_=>rfl
 |5,_=>rfl
 |6,_=>rfl
 |7,_=>rfl
 |8,_=>rfl
 |9,_=>rfl
 |10,_=>rfl
 |11,_=>rfl
 |k+12,h=>absurd h (by omega)
theorem rsize_in (k:Nat) (w:World) (h:k<12):Calls Tryz.prog 85 #[.int .i64 k] w fun e w'=>e= .returned (.int .i64 (sz k))∧Below w.heap.size w w':=by
 have h1:¬(k:Int)<0:=(by omega);have h2:¬(11:Int)<k:=(by omega);(go_enter Tryz.func85,Tryz.ntmps85);go_wp2;go_ret;exact⟨congrArg Ending.returned (szl k h),(Below.refl _ _).alloc (Nat.le_refl _) _⟩
theorem Tab.below {w w':World} (h:Tab w) (hz:0<w.heap.size) (hb:Below w.heap.size w w'):Tab w':=⟨fun k hk=>⟨(hb.cell (p:=⟨0,k*2,none⟩) hz).trans (h.1 k hk).1,(hb.cell (p:=⟨0,k*2+1,none⟩) hz).trans (h.1 k hk).2⟩,by
 obtain⟨t,fr,hf⟩:=h.2;exact⟨t,fr,(hb.block _ hz).trans hf⟩⟩
def hc (a : Nat → Int) : Array Value := #[.int .u64 (a 0), .int .u64 (a 1), .int .u64 (a 2), .int .u64 (a 3), .int .u64 (a 4), .int .u64 (a 5), .int .u64 (a 6), .int .u64 (a 7), .int .u64 (a 8), .int .u64 (a 9), .int .u64 (a 10), .int .u64 (a 11)]
theorem hc_at (a:Nat→Int):∀j,j<12→(hc a)[j]? =some (.int .u64 (a j))
 |0,_=>rfl
 |1,_=>rfl
 |2,_=>rfl
 |3,_=>rfl
 |4,_=>rfl
 |5,_=>rfl
 |6,_=>rfl
 |7,_=>rfl
 |8,_=>rfl
 |9,_=>rfl
 |10,_=>rfl
 |11,_=>rfl
 |j+12,h=>absurd h (by omega)
def fitB (k : Nat) (v : Int) : Bool := decide (v < 2 ^ (sz k).toNat)
theorem ret_bool {a b:Bool} (h:a=b):Ending.returned (.bool a)= .returned (.bool b):=by rw[h]
theorem fit_shr (k:Nat) (v:Int) (h0:0≤v):(v / 2 ^ (sz k).toNat==0)=fitB k v:=by
 unfold fitB;have hp:=pow_pos' (sz k).toNat;rw[Bool.eq_iff_iff];simp only[beq_iff_eq,decide_eq_true_eq];constructor
 ·intro h;have:=Int.lt_ediv_add_one_mul_self v hp;rw[h] at this;omega
 ·intro h;exact Int.ediv_eq_zero_of_lt h0 h
theorem fits_any (k:Nat) (v:Int) (w:World) (h1:k<12) (h0:0≤v) (ht:Tab w):Calls Tryz.prog 118 #[.int .i64 k,.int .u64 v] w fun e w'=>e= .returned (.bool (fitB k v))∧w=w':=by
 have hc:=(ht.1 k h1).2;clear ht;obtain⟨hs0,hs1⟩:=sz_le k;(go_enter Tryz.func118,Tryz.ntmps118);go_wp2;go_ret;exact⟨ret_bool (fit_shr k v h0),rfl⟩
theorem rfits_any (k:Nat) (v:Int) (w:World):Calls Tryz.prog 84 #[.int .u64 v,.int .i64 (sz k)] w fun e w'=>e= .returned (.bool (fitB k v))∧w=w':=by
 obtain⟨hs0,hs1⟩:=sz_le k;have hp:=pow_le' (show(sz k).toNat≤48 by omega);have hq:=pow_pos' (sz k).toNat;have HE:=Lib.hid (u64_in (x:=2 ^ (sz k).toNat) (by omega) (by omega));clear hp hq;(go_enter Tryz.func84,Tryz.ntmps84);go_wp2;go_ret;exact⟨ret_bool (by rw[HE.out];rfl),rfl⟩
def upd (a : Nat → Int) (k : Nat) (v : Int) : Nat → Int := fun j => if j = k then v else a j
theorem hc_set (a:Nat→Int) (v:Int):∀k,k<12→(hc a).setIfInBounds k (.int .u64 v)=hc (upd a k v)
 |0,_=>by simp[hc,upd]
 |1,_=>by simp[hc,upd]
 |2,_=>by simp[hc,upd]
 |3,_=>by simp[hc,upd]
 |4,_=>by simp[hc,upd]
 |5,_=>by simp[hc,upd]
 |6,_=>by simp[hc,upd]
 |7,_=>by simp[hc,upd]
 |8,_=>by simp[hc,upd]
 |9,_=>by simp[hc,upd]
 |10,_=>by simp[hc,upd]
 |11,_=>by simp[hc,upd]
 |k+12,h=>absurd h (by omega)
theorem hc_one (a:Nat→Int):(hc a).all (·.oneCell')=true:=by simp[hc,Value.oneCell']
theorem setTwo (w:World) (A:Obj) (c c':Array Value) (t:TypeId):((w.alloc A).alloc (.cells c t)).setRow (w.heap.size+1) c'=(w.alloc A).alloc (.cells c' t):=by
 have:=World.setRow_alloc_new (w.alloc A) c c' t;simpa using this
theorem below2 (w:World) (A B:Obj):Below w.heap.size w ((w.alloc A).alloc B):=((Below.refl _ _).alloc (Nat.le_refl _) _).alloc (by simp) _
set_option maxHeartbeats 400000 in
theorem set_in (a:Nat→Int) (k:Nat) (v:Int) (w:World) (h1:k<12) (h0:0≤v) (hf:fitB k v=true) (ht:Tab w) (hz:0<w.heap.size):Calls Tryz.prog 80 #[.agg (hc a),.int .i64 k,.int .u64 v] w fun e w'=>e= .returned (.tuple #[.agg (hc (upd a k v)),.int .i64 0])∧Below w.heap.size w w':=by
 have HT:=Lib.hid ht;have hat:=hc_at a k h1;have hset:=hc_set a v k h1;clear ht;(go_enter Tryz.func80,Tryz.ntmps80);(go_wp2_with(first|(go_at_call 117;refine(known_in _ _ (by omega) (by omega)).mono ?_;rintro e w' ⟨rfl,rfl⟩)|(go_at_call 118;refine(fits_any k v _ h1 h0 (HT.out.below hz (below2 _ _ _))).mono ?_;rintro e w' ⟨rfl,rfl⟩)|(refine wpList_load_row rfl 35 _ rfl w.heap.size rfl 35 (hc (upd a k v)) (0,0) _ (heap_alloc2_old _ _ _) Tryz.underlying35 rfl (by kernel_rfl) ?_)|(refine wpList_store_row rfl 35 _ _ rfl (w.heap.size+1) (hc (upd a k v)) rfl rfl 35 _ (heap_alloc2_new _ _ _) (by kernel_rfl) rfl (hc_one _) ?_;rw[setTwo])));refine bodyPost_ret (v:= .tuple #[.agg (hc (upd a k v)),.int .i64 0]) ?_ rfl ⟨rfl,below2 _ _ _⟩;rw[results_cell_tmp Tryz.results80];simp[asAddr,run_loadVar_row _ (w.heap.size+1) 35 35 (hc (upd a k v)) (0,0) _ (heap_alloc2_new w (.cells (hc (upd a k v)) 35) _) Tryz.underlying35 rfl (by kernel_rfl)]
def zh : Nat → Int := fun _ => 0
theorem res_two {fn:Func} {p u:Tmp} {ty:TypeId} (h:fn.results=#[.cell p ty,.tmp u]) {tmps:Array Value} {P:Program} {w:World} {g:Nat} {t:TypeId} {cs:Array Value} {fr:Nat×Nat} {n:Nat} {e:TypeId} {x:Value} (hp:tmps.getD p undef= .pointer (some ⟨g,0,none⟩)) (hx:tmps.getD u undef=x) (hg:w.heap[g]? =some (.cells cs t fr)) (hu:P.underlying ty=some (.array n e)) (hi:(P.info? ty).map (·.size)=some cs.size):(results fn tmps).run P w= .ok (.tuple #[.agg cs,x]) w:=by
 rw[results_cell_tmp h,hp,hx];simp[asAddr,run_loadVar_row w g t ty cs fr _ hg hu rfl hi]
set_option maxHeartbeats 400000 in
theorem set_out (a:Nat→Int) (n:Int) (v:Int) (w:World) (h:n<0∨12≤n):Calls Tryz.prog 80 #[.agg (hc a),.int .i64 n,.int .u64 v] w fun e w'=>e= .returned (.tuple #[.agg (hc zh),.int .i64 1])∧Below w.heap.size w w':=by
 (go_enter Tryz.func80,Tryz.ntmps80);(go_wp2_with(go_at_call 117;refine(known_out _ _ h).mono ?_;rintro e w' ⟨rfl,rfl⟩));refine bodyPost_ret (v:= .tuple #[.agg (hc zh),.int .i64 1]) ?_ rfl ⟨rfl,below2 _ _ _⟩;exact res_two Tryz.results80 (cs:=hc zh) rfl rfl (heap_alloc2_new w _ _) Tryz.underlying35 (by kernel_rfl)
set_option maxHeartbeats 400000 in
theorem set_big (a:Nat→Int) (k:Nat) (v:Int) (w:World) (h1:k<12) (h0:0≤v) (hf:fitB k v=false) (ht:Tab w) (hz:0<w.heap.size):Calls Tryz.prog 80 #[.agg (hc a),.int .i64 k,.int .u64 v] w fun e w'=>e= .returned (.tuple #[.agg (hc zh),.int .i64 13])∧Below w.heap.size w w':=by
 have HT:=Lib.hid ht;clear ht;(go_enter Tryz.func80,Tryz.ntmps80);(go_wp2_with(first|(go_at_call 117;refine(known_in _ _ (by omega) (by omega)).mono ?_;rintro e w' ⟨rfl,rfl⟩)|(go_at_call 118;refine(fits_any k v _ h1 h0 (HT.out.below hz (below2 _ _ _))).mono ?_;rintro e w' ⟨rfl,rfl⟩)));refine bodyPost_ret (v:= .tuple #[.agg (hc zh),.int .i64 13]) ?_ rfl ⟨rfl,below2 _ _ _⟩;exact res_two Tryz.results80 (cs:=hc zh) rfl rfl (heap_alloc2_new w _ _) Tryz.underlying35 (by kernel_rfl)
theorem cell_row {w:World} {g j:Nat} {a:Nat→Int} {t:TypeId} {fr:Nat×Nat} (hg:w.heap[g]? =some (.cells (hc a) t fr)) (hj:j<12):w.cell? ⟨g,j,none⟩=some (.int .u64 (a j)):=by
 rw[cell_of_row w g j _ t fr hg,hc_at a j hj]
def setV (a : Nat → Int) (n v : Int) : Nat → Int := if n < 0 ∨ 12 ≤ n then zh else if fitB n.toNat v then upd a n.toNat v else zh
def setE (n v : Int) : Int := if n < 0 ∨ 12 ≤ n then 1 else if fitB n.toNat v then 0 else 13
theorem set_any (a:Nat→Int) (n v:Int) (w:World) (v0:0≤v) (ht:Tab w) (hz:0<w.heap.size):Calls Tryz.prog 80 #[.agg (hc a),.int .i64 n,.int .u64 v] w fun e w'=>e= .returned (.tuple #[.agg (hc (setV a n v)),.int .i64 (setE n v)])∧Below w.heap.size w w':=by
 unfold setV setE;by_cases hn:n<0∨12≤n
 ·rw[if_pos hn,if_pos hn];exact set_out a n v w hn
 ·obtain⟨k,rfl⟩:∃k:Nat,n=k:=⟨n.toNat,by omega⟩;rw[if_neg hn,if_neg hn];cases hf:fitB k v
  ·simp only[Int.toNat_natCast,hf];exact set_big a k v w (by omega) v0 hf ht hz
  ·simp only[Int.toNat_natCast,hf];exact set_in a k v w (by omega) v0 hf ht hz
theorem setV_in (a:Nat→Int) (k:Nat) (v:Int) (hk:k<12) (hf:fitB k v=true):setV a k v=upd a k v:=by
 unfold setV;rw[if_neg (by omega)];simp[hf]
theorem setE_zero {n v:Int} (h:setE n v=0):∃k:Nat,n=k∧k<12∧fitB k v=true:=by
 unfold setE at h;by_cases hn:n<0∨12≤n
 ·rw[if_pos hn] at h;exact absurd h (by decide)
 ·rw[if_neg hn] at h;cases hf:fitB n.toNat v
  ·rw[hf] at h;exact absurd h (by decide)
  ·exact⟨n.toNat,by omega,by omega,hf⟩
theorem setE_in (k:Nat) (v:Int) (hk:k<12) (hf:fitB k v=true):setE k v=0:=by
 unfold setE;rw[if_neg (by omega)];simp[hf]
theorem idxHead (a:Nat→Int):∀(j:Nat),j<12→∀w:World,(Instr.index 35 (.agg (hc a)) (.int .i64 j)).run Tryz.prog w= .ok (.int .u64 (a j)) w
 |0,_,_=>by kernel_rfl
 |1,_,_=>by kernel_rfl
 |2,_,_=>by kernel_rfl
 |3,_,_=>by kernel_rfl
 |4,_,_=>by kernel_rfl
 |5,_,_=>by kernel_rfl
 |6,_,_=>by kernel_rfl
 |7,_,_=>by kernel_rfl
 |8,_,_=>by kernel_rfl
 |9,_,_=>by kernel_rfl
 |10,_,_=>by kernel_rfl
 |11,_,_=>by kernel_rfl
 |j+12,h,_=>absurd h (by omega)
theorem below1 (w:World) (A:Obj):Below w.heap.size w (w.alloc A):=(Below.refl _ _).alloc (Nat.le_refl _) _
set_option maxHeartbeats 400000 in
theorem sound_yes (a:Nat→Int) (h0:∀j,0≤a j) (hy:∀j,j<12→fitB j (a j)=true) (w:World) (ht:Tab w) (hz:0<w.heap.size):Calls Tryz.prog 103 #[.agg (hc a)] w fun e w'=>e= .returned (.bool true)∧Below w.heap.size w w':=by
 have HT:=Lib.hid (ht.below hz (below1 w (.cells (hc a) 35)));have HY:=Lib.hid hy;have H0:=Lib.hid h0;clear ht hy h0;(go_enter Tryz.func103,Tryz.ntmps103);(go_wp2_with(refine wpList_load_row rfl 35 _ rfl w.heap.size rfl 35 (hc a) (0,0) _ (heap_alloc_new _ _) Tryz.underlying35 rfl (by kernel_rfl) ?_));go_loop [6] (fun i=>∃r:Nat,r≤12∧i= .int .i64 r) (fun i=>(12 - intOf i).toNat)
 case atStart=>exact⟨0,by omega,rfl⟩
 case round=>
  obtain⟨r,hr,rfl⟩:=hrel;by_cases hlt:r<12
  ·have hidx:=idxHead a r hlt;have hf:=HY.out r hlt;(go_wp2_with(go_at_call 118;refine(fits_any r (a r) _ hlt (H0.out r) HT.out).mono ?_;rintro e w' ⟨rfl,rfl⟩));go_round
   case rel=>exact⟨r+1,by omega,by go_num⟩
   case measure=>simp[intOf];omega
  ·go_wp2;go_ret;exact⟨rfl,below1 _ _⟩
set_option maxHeartbeats 400000 in
theorem sound_no (a:Nat→Int) (h0:∀j,0≤a j) (k:Nat) (hk:k<12) (hy:∀j,j<k→fitB j (a j)=true) (hn:fitB k (a k)=false) (w:World) (ht:Tab w) (hz:0<w.heap.size):Calls Tryz.prog 103 #[.agg (hc a)] w fun e w'=>e= .returned (.bool false)∧Below w.heap.size w w':=by
 have HT:=Lib.hid (ht.below hz (below1 w (.cells (hc a) 35)));have HY:=Lib.hid hy;have H0:=Lib.hid h0;have HN:=Lib.hid hn;clear ht hy h0 hn;(go_enter Tryz.func103,Tryz.ntmps103);(go_wp2_with(refine wpList_load_row rfl 35 _ rfl w.heap.size rfl 35 (hc a) (0,0) _ (heap_alloc_new _ _) Tryz.underlying35 rfl (by kernel_rfl) ?_));go_loop [6] (fun i=>∃r:Nat,r≤k∧i= .int .i64 r) (fun i=>(12 - intOf i).toNat)
 case atStart=>exact⟨0,by omega,rfl⟩
 case round=>
  obtain⟨r,hr,rfl⟩:=hrel;have h12:r<12:=(by omega);have hidx:=idxHead a r h12;by_cases hlt:r<k
  ·have hf:=HY.out r hlt;(go_wp2_with(go_at_call 118;refine(fits_any r (a r) _ h12 (H0.out r) HT.out).mono ?_;rintro e w' ⟨rfl,rfl⟩));go_round
   case rel=>exact⟨r+1,by omega,by go_num⟩
   case measure=>simp[intOf];omega
  ·obtain rfl:r=k:=(by omega);have hf:=HN.out;(go_wp2_with(go_at_call 118;refine(fits_any r (a r) _ h12 (H0.out r) HT.out).mono ?_;rintro e w' ⟨rfl,rfl⟩));go_ret;exact⟨rfl,below1 _ _⟩
set_option maxHeartbeats 400000 in
theorem rhead_yes (a:Nat→Int) (hy:∀j,j<12→fitB j (a j)=true) (w:World):Calls Tryz.prog 87 #[.agg (hc a)] w fun e w'=>e= .returned (.bool true)∧Below w.heap.size w w':=by
 have HY:=Lib.hid hy;clear hy;(go_enter Tryz.func87,Tryz.ntmps87);go_wp2;go_loopw [3] (fun i wr=>∃r:Nat,r≤12∧i= .int .i64 r∧wr.heap[w.heap.size]? =some (.cells (hc a) 35 (0,0))∧Below w.heap.size w wr) (fun i _=>(12 - intOf i).toNat)
 case atStart=>exact⟨0,by omega,rfl,heap_alloc_new _ _,below1 _ _⟩
 case round=>
  obtain⟨r,hr,rfl,hrow,hwr⟩:=hrel;have HR:=Lib.hid hrow;clear hrow;by_cases hlt:r<12
  ·have hcell:=cell_row HR.out hlt;have hf:=HY.out r hlt;go_wp2;have hzr:w.heap.size<wr.heap.size:=block_lt_of_cell hcell;(go_region_with (first|(go_at_call 85;refine(rsize_in r _ hlt).mono ?_;rintro e w1 ⟨rfl,hw1⟩;have hc1:w1.cell? ⟨w.heap.size,r,none⟩=some (.int .u64 (a r)):=(hw1.cell (p:=⟨w.heap.size,r,none⟩) hzr).trans hcell)|(go_at_call 84;refine(rfits_any r (a r) _).mono ?_;rintro e w' ⟨rfl,rfl⟩)));all_goals
    go_wp2;go_roundw
    case rel=>exact⟨r+1,by omega,by go_num,(hw1.block _ hzr).trans HR.out,hwr.drew.trans (hw1.mono hwr.size)⟩
    case measure=>simp[intOf];omega
  ·go_wp2;go_ret;exact⟨rfl,hwr⟩
set_option maxHeartbeats 400000 in
theorem rhead_no (a:Nat→Int) (k:Nat) (hk:k<12) (hy:∀j,j<k→fitB j (a j)=true) (hn:fitB k (a k)=false) (w:World):Calls Tryz.prog 87 #[.agg (hc a)] w fun e w'=>e= .returned (.bool false)∧Below w.heap.size w w':=by
 have HY:=Lib.hid hy;have HN:=Lib.hid hn;clear hy hn;(go_enter Tryz.func87,Tryz.ntmps87);go_wp2;go_loopw [3] (fun i wr=>∃r:Nat,r≤k∧i= .int .i64 r∧wr.heap[w.heap.size]? =some (.cells (hc a) 35 (0,0))∧Below w.heap.size w wr) (fun i _=>(12 - intOf i).toNat)
 case atStart=>exact⟨0,by omega,rfl,heap_alloc_new _ _,below1 _ _⟩
 case round=>
  obtain⟨r,hr,rfl,hrow,hwr⟩:=hrel;have HR:=Lib.hid hrow;clear hrow;have h12:r<12:=(by omega);have hcell:=cell_row HR.out h12;have hzr:w.heap.size<wr.heap.size:=block_lt_of_cell hcell;by_cases hlt:r<k
  ·have hf:=HY.out r hlt;go_wp2;(go_region_with (first|(go_at_call 85;refine(rsize_in r _ h12).mono ?_;rintro e w1 ⟨rfl,hw1⟩;have hc1:w1.cell? ⟨w.heap.size,r,none⟩=some (.int .u64 (a r)):=(hw1.cell (p:=⟨w.heap.size,r,none⟩) hzr).trans hcell)|(go_at_call 84;refine(rfits_any r (a r) _).mono ?_;rintro e w' ⟨rfl,rfl⟩)));all_goals
    go_wp2;go_roundw
    case rel=>exact⟨r+1,by omega,by go_num,(hw1.block _ hzr).trans HR.out,hwr.drew.trans (hw1.mono hwr.size)⟩
    case measure=>simp[intOf];omega
  ·obtain rfl:r=k:=(by omega);have hf:=HN.out;go_wp2;(go_region_with (first|(go_at_call 85;refine(rsize_in r _ h12).mono ?_;rintro e w1 ⟨rfl,hw1⟩;have hc1:w1.cell? ⟨w.heap.size,r,none⟩=some (.int .u64 (a r)):=(hw1.cell (p:=⟨w.heap.size,r,none⟩) hzr).trans hcell)|(go_at_call 84;refine(rfits_any r (a r) _).mono ?_;rintro e w' ⟨rfl,rfl⟩)));all_goals go_wp2;go_ret;exact⟨rfl,hwr.drew.trans (hw1.mono hwr.size)⟩
def sndB (a : Nat → Int) : Bool := (List.range 12).all fun j => fitB j (a j)
theorem snd_cases (a:Nat→Int):(sndB a=true∧∀j,j<12→fitB j (a j)=true)∨(sndB a=false∧∃k,k<12∧(∀j,j<k→fitB j (a j)=true)∧fitB k (a k)=false):=by
 rcases first_hit (fun j=>!fitB j (a j)) 12 with h|⟨k,hk,h1,h2⟩
 ·have h':∀j,j<12→fitB j (a j)=true:=fun j hj=>(by simpa using h j hj);exact Or.inl ⟨by simpa [sndB] using h',h'⟩
 ·refine Or.inr ⟨?_,k,hk,fun j hj=>by simpa using h1 j hj,by simpa using h2⟩;rw[sndB,List.all_eq_false];exact⟨k,by simpa using hk,by simpa using h2⟩
theorem sound_any (a:Nat→Int) (h0:∀j,0≤a j) (w:World) (ht:Tab w) (hz:0<w.heap.size):Calls Tryz.prog 103 #[.agg (hc a)] w fun e w'=>e= .returned (.bool (sndB a))∧Below w.heap.size w w':=by
 rcases snd_cases a with⟨e,h⟩|⟨e,k,hk,h1,h2⟩
 ·rw[e];exact sound_yes a h0 h w ht hz
 ·rw[e];exact sound_no a h0 k hk h1 h2 w ht hz
theorem rhead_any (a:Nat→Int) (w:World):Calls Tryz.prog 87 #[.agg (hc a)] w fun e w'=>e= .returned (.bool (sndB a))∧Below w.heap.size w w':=by
 rcases snd_cases a with⟨e,h⟩|⟨e,k,hk,h1,h2⟩
 ·rw[e];exact rhead_yes a h w
 ·rw[e];exact rhead_no a k hk h1 h2 w
def hEq (a b : Nat → Int) : Bool := (List.range 12).all fun i => a i == b i
theorem partHead (a:Nat→Int):∀(j:Nat),j<12→∀w:World,(part 33 (hc a) (j*1)).run Tryz.prog w= .ok (.int .u64 (a j)) w
 |0,_,_=>by kernel_rfl
 |1,_,_=>by kernel_rfl
 |2,_,_=>by kernel_rfl
 |3,_,_=>by kernel_rfl
 |4,_,_=>by kernel_rfl
 |5,_,_=>by kernel_rfl
 |6,_,_=>by kernel_rfl
 |7,_,_=>by kernel_rfl
 |8,_,_=>by kernel_rfl
 |9,_,_=>by kernel_rfl
 |10,_,_=>by kernel_rfl
 |11,_,_=>by kernel_rfl
 |j+12,h,_=>absurd h (by omega)
theorem cU64:Tryz.prog.cellsOf 33=1:=by kernel_rfl
theorem eqItems_head (a b:Nat→Int) (d:Nat) (w:World):∀is:List Nat,(∀i∈is,i<12)→(Op.eqItems (d+1) 33 1 (hc a) (hc b) is).run Tryz.prog w= .ok (is.all fun i=>a i==b i) w
 |[],_=>by simp[Op.eqItems]
 |i::is,h=>by
  have h1:=h i (by simp);have ih:=eqItems_head a b d w is fun j hj=>h j (by simp[hj]);simp only[Op.eqItems,Sem.run_bind,partHead a i h1,partHead b i h1,Result.andThen_ok,run_equalIn_int w d 33 .u64 .u64 (a i) (b i) Tryz.underlying33];cases hx:(a i==b i)
  ·simp[hx]
  ·simp[hx,ih]
theorem infoU64:∃i,Tryz.prog.info? 33=some i:=Option.isSome_iff_exists.1 (by kernel_rfl)
theorem eql_head (a b:Nat→Int) (w:World):(Op.equalIn 10000 35 (.agg (hc a)) (.agg (hc b))).run Tryz.prog w= .ok (hEq a b) w:=by
 obtain⟨i,hi⟩:=infoU64;rw[run_equalIn_array w 9999 (hc a) (hc b) Tryz.underlying35 hi,cU64];exact eqItems_head a b 9998 w (List.range 12) fun i hi=>by simpa using hi
theorem hEq_refl (a:Nat→Int):hEq a a=true:=by simp[hEq]
theorem guardHead:Tryz.prog.eqGuardType Tryz.prog.depth 35=false:=by kernel_rfl
theorem kept1 {w w1:World} {A:Obj} (h:Below (w.alloc A).heap.size (w.alloc A) w1):w1.heap[w.heap.size]? =some A∧w.heap.size<w1.heap.size∧Below w.heap.size w w1:=⟨(h.block _ (by simp)).trans (heap_alloc_new _ _),Nat.lt_of_lt_of_le (by simp) h.size,(below1 w A).trans (h.mono (by simp))⟩
def hl (a : Nat → Int) : List Value := [.int .u64 (a 0), .int .u64 (a 1), .int .u64 (a 2), .int .u64 (a 3), .int .u64 (a 4), .int .u64 (a 5), .int .u64 (a 6), .int .u64 (a 7), .int .u64 (a 8), .int .u64 (a 9), .int .u64 (a 10), .int .u64 (a 11)]
def Env (w w' : World) : Prop := Tab w' ∧ 0 < w'.heap.size ∧ Below w.heap.size w w'
theorem Env.below {w W W':World} (h:Env w W) (hb:Below W.heap.size W W'):Env w W':=⟨h.1.below h.2.1 hb,Nat.lt_of_lt_of_le h.2.1 hb.size,h.2.2.trans (hb.mono h.2.2.size)⟩
theorem Env.drew {w W:World} (h:Env w W):Env w W.drew:=h.below (Below.refl _ _).drew
theorem Env.tab {w W:World} (h:Env w W):Tab W:=h.1
theorem Env.lt {w W:World} (h:Env w W):0<W.heap.size:=h.2.1
def HeadAt (b : Nat) (a : Nat → Int) (w : World) : Prop := w.rangeAt b 0 (hl a)
theorem infoHead:(Tryz.prog.info? 35).map (·.size)=some 12:=by kernel_rfl
def Bun (w : World) (b1 b2 b3 : Nat) (a x y : Nat → Int) (W : World) : Prop := HeadAt b1 a W ∧ HeadAt b2 x W ∧ HeadAt b3 y W ∧ Env w W
section
variable {w W W' : World} {b1 b2 b3 : Nat} {a x y : Nat → Int}
theorem Bun.r1 (h:Bun w b1 b2 b3 a x y W):HeadAt b1 a W:=h.1
theorem Bun.r2 (h:Bun w b1 b2 b3 a x y W):HeadAt b2 x W:=h.2.1
end
theorem upd_sound (a:Nat→Int) (k:Nat) (v:Int) (hs:sndB a=true) (hf:fitB k v=true):sndB (upd a k v)=true:=by
 simp only[sndB,List.all_eq_true,List.mem_range] at hs ⊢;intro j hj;unfold upd;by_cases e:j=k
 ·rw[if_pos e,e];exact hf
 ·rw[if_neg e];exact hs j hj
def Two (w : World) (a b : Nat → Int) (W : World) : Prop := W.heap[w.heap.size]? = some (.cells (hc a) 35 (0, 0)) ∧ W.heap[w.heap.size + 1]? = some (.cells (hc b) 35 (0, 0)) ∧ Below w.heap.size w W
theorem Two.start (w:World) (a b:Nat→Int):Two w a b ((w.alloc (.cells (hc a) 35)).alloc (.cells (hc b) 35)):=⟨heap_alloc2_old _ _ _,heap_alloc2_new _ _ _,below2 _ _ _⟩
theorem Two.drewN {w:World} {a b:Nat→Int} {W:World} (h:Two w a b W):∀n,Two w a b (W.drewN n)
 |0=>h
 |n+1=>⟨h.1,h.2.1,(h.drewN n).2.2.drew⟩
set_option maxHeartbeats 400000 in
theorem cmp_lt (a b:Nat→Int) (k:Nat) (hk:k<12) (heq:∀j,j<k→a j=b j) (hd:a k<b k) (w:World):Calls Tryz.prog 161 #[.agg (hc a),.agg (hc b)] w fun e w'=>e= .returned (.int .i64 (-1))∧Below w.heap.size w w':=by
 have HQ:=Lib.hid heq;have HL:=Lib.hid hd;clear heq hd;(go_enter Tryz.func161,Tryz.ntmps161);go_wp2;go_loopw [6] (fun i wr=>∃r:Nat,r≤k∧i= .int .i64 r∧Two w a b wr) (fun i _=>(12 - intOf i).toNat)
 case atStart=>exact⟨0,by omega,rfl,Two.start w a b⟩
 case round=>
  obtain⟨r,hr,rfl,hrow⟩:=hrel;have HR:=Lib.hid hrow;clear hrow;by_cases hrk:r<k
  ·have h12:r<12:=(by omega);have ca:=cell_row HR.out.1 h12;have cb:=cell_row HR.out.2.1 h12;have e:=HQ.out r hrk;have g1:¬a r<b r:=(by omega);have g2:¬b r<a r:=(by omega);clear e;go_wp2;(go_quiet (fail));go_wp2;(go_quiet (fail));go_wp2;go_roundw
   case rel=>exact⟨r+1,by omega,by go_num,HR.out.drewN _⟩
   case measure=>simp[intOf];omega
  ·obtain rfl:r=k:=(by omega);have ca:=cell_row HR.out.1 hk;have cb:=cell_row HR.out.2.1 hk;have g1:=HL.out;go_wp2;(go_quiet (fail));go_wp2;go_ret;exact⟨rfl,(HR.out.drewN _).2.2⟩
set_option maxHeartbeats 400000 in
theorem cmp_gt (a b:Nat→Int) (k:Nat) (hk:k<12) (heq:∀j,j<k→a j=b j) (hd:b k<a k) (w:World):Calls Tryz.prog 161 #[.agg (hc a),.agg (hc b)] w fun e w'=>e= .returned (.int .i64 1)∧Below w.heap.size w w':=by
 have HQ:=Lib.hid heq;have HL:=Lib.hid hd;clear heq hd;(go_enter Tryz.func161,Tryz.ntmps161);go_wp2;go_loopw [6] (fun i wr=>∃r:Nat,r≤k∧i= .int .i64 r∧Two w a b wr) (fun i _=>(12 - intOf i).toNat)
 case atStart=>exact⟨0,by omega,rfl,Two.start w a b⟩
 case round=>
  obtain⟨r,hr,rfl,hrow⟩:=hrel;have HR:=Lib.hid hrow;clear hrow;by_cases hrk:r<k
  ·have h12:r<12:=(by omega);have ca:=cell_row HR.out.1 h12;have cb:=cell_row HR.out.2.1 h12;have e:=HQ.out r hrk;have g1:¬a r<b r:=(by omega);have g2:¬b r<a r:=(by omega);clear e;go_wp2;(go_quiet (fail));go_wp2;(go_quiet (fail));go_wp2;go_roundw
   case rel=>exact⟨r+1,by omega,by go_num,HR.out.drewN _⟩
   case measure=>simp[intOf];omega
  ·obtain rfl:r=k:=(by omega);have ca:=cell_row HR.out.1 hk;have cb:=cell_row HR.out.2.1 hk;have g1:=HL.out;have g2:¬a r<b r:=(by omega);go_wp2;(go_quiet (fail));go_wp2;(go_quiet (fail));go_wp2;go_ret;exact⟨rfl,((HR.out.drewN _).drewN _).2.2⟩
set_option maxHeartbeats 400000 in
theorem cmp_eq (a b:Nat→Int) (heq:∀j,j<12→a j=b j) (w:World):Calls Tryz.prog 161 #[.agg (hc a),.agg (hc b)] w fun e w'=>e= .returned (.int .i64 0)∧Below w.heap.size w w':=by
 have HQ:=Lib.hid heq;clear heq;(go_enter Tryz.func161,Tryz.ntmps161);go_wp2;go_loopw [6] (fun i wr=>∃r:Nat,r≤12∧i= .int .i64 r∧Two w a b wr) (fun i _=>(12 - intOf i).toNat)
 case atStart=>exact⟨0,by omega,rfl,Two.start w a b⟩
 case round=>
  obtain⟨r,hr,rfl,hrow⟩:=hrel;have HR:=Lib.hid hrow;clear hrow;by_cases hrk:r<12
  ·have h12:r<12:=(by omega);have ca:=cell_row HR.out.1 h12;have cb:=cell_row HR.out.2.1 h12;have e:=HQ.out r hrk;have g1:¬a r<b r:=(by omega);have g2:¬b r<a r:=(by omega);clear e;go_wp2;(go_quiet (fail));go_wp2;(go_quiet (fail));go_wp2;go_roundw
   case rel=>exact⟨r+1,by omega,by go_num,HR.out.drewN _⟩
   case measure=>simp[intOf];omega
  ·go_wp2;go_ret;exact⟨rfl,HR.out.2.2⟩
set_option maxHeartbeats 400000 in
theorem rord_lt (a b:Nat→Int) (k:Nat) (hk:k<12) (heq:∀j,j<k→a j=b j) (hd:a k<b k) (w:World):Calls Tryz.prog 119 #[.agg (hc a),.agg (hc b)] w fun e w'=>e= .returned (.int .i64 (-1))∧Below w.heap.size w w':=by
 have HQ:=Lib.hid heq;have HL:=Lib.hid hd;clear heq hd;(go_enter Tryz.func119,Tryz.ntmps119);go_wp2;go_loopw [5] (fun i wr=>∃r:Nat,r≤k∧i= .int .i64 r∧Two w a b wr) (fun i _=>(12 - intOf i).toNat)
 case atStart=>exact⟨0,by omega,rfl,Two.start w a b⟩
 case round=>
  obtain⟨r,hr,rfl,hrow⟩:=hrel;have HR:=Lib.hid hrow;clear hrow;by_cases hrk:r<k
  ·have h12:r<12:=(by omega);have ca:=cell_row HR.out.1 h12;have cb:=cell_row HR.out.2.1 h12;have e:=HQ.out r hrk;have g1:¬a r<b r:=(by omega);have g2:¬b r<a r:=(by omega);clear e;go_wp2;(go_quiet (fail));go_wp2;(go_quiet (fail));go_wp2;go_roundw
   case rel=>exact⟨r+1,by omega,by go_num,HR.out.drewN _⟩
   case measure=>simp[intOf];omega
  ·obtain rfl:r=k:=(by omega);have ca:=cell_row HR.out.1 hk;have cb:=cell_row HR.out.2.1 hk;have g1:=HL.out;go_wp2;(go_quiet (fail));go_wp2;go_ret;exact⟨rfl,(HR.out.drewN _).2.2⟩
set_option maxHeartbeats 400000 in
theorem rord_gt (a b:Nat→Int) (k:Nat) (hk:k<12) (heq:∀j,j<k→a j=b j) (hd:b k<a k) (w:World):Calls Tryz.prog 119 #[.agg (hc a),.agg (hc b)] w fun e w'=>e= .returned (.int .i64 1)∧Below w.heap.size w w':=by
 have HQ:=Lib.hid heq;have HL:=Lib.hid hd;clear heq hd;(go_enter Tryz.func119,Tryz.ntmps119);go_wp2;go_loopw [5] (fun i wr=>∃r:Nat,r≤k∧i= .int .i64 r∧Two w a b wr) (fun i _=>(12 - intOf i).toNat)
 case atStart=>exact⟨0,by omega,rfl,Two.start w a b⟩
 case round=>
  obtain⟨r,hr,rfl,hrow⟩:=hrel;have HR:=Lib.hid hrow;clear hrow;by_cases hrk:r<k
  ·have h12:r<12:=(by omega);have ca:=cell_row HR.out.1 h12;have cb:=cell_row HR.out.2.1 h12;have e:=HQ.out r hrk;have g1:¬a r<b r:=(by omega);have g2:¬b r<a r:=(by omega);clear e;go_wp2;(go_quiet (fail));go_wp2;(go_quiet (fail));go_wp2;go_roundw
   case rel=>exact⟨r+1,by omega,by go_num,HR.out.drewN _⟩
   case measure=>simp[intOf];omega
  ·obtain rfl:r=k:=(by omega);have ca:=cell_row HR.out.1 hk;have cb:=cell_row HR.out.2.1 hk;have g1:=HL.out;have g2:¬a r<b r:=(by omega);go_wp2;(go_quiet (fail));go_wp2;(go_quiet (fail));go_wp2;go_ret;exact⟨rfl,((HR.out.drewN _).drewN _).2.2⟩
set_option maxHeartbeats 400000 in
theorem rord_eq (a b:Nat→Int) (heq:∀j,j<12→a j=b j) (w:World):Calls Tryz.prog 119 #[.agg (hc a),.agg (hc b)] w fun e w'=>e= .returned (.int .i64 0)∧Below w.heap.size w w':=by
 have HQ:=Lib.hid heq;clear heq;(go_enter Tryz.func119,Tryz.ntmps119);go_wp2;go_loopw [5] (fun i wr=>∃r:Nat,r≤12∧i= .int .i64 r∧Two w a b wr) (fun i _=>(12 - intOf i).toNat)
 case atStart=>exact⟨0,by omega,rfl,Two.start w a b⟩
 case round=>
  obtain⟨r,hr,rfl,hrow⟩:=hrel;have HR:=Lib.hid hrow;clear hrow;by_cases hrk:r<12
  ·have h12:r<12:=(by omega);have ca:=cell_row HR.out.1 h12;have cb:=cell_row HR.out.2.1 h12;have e:=HQ.out r hrk;have g1:¬a r<b r:=(by omega);have g2:¬b r<a r:=(by omega);clear e;go_wp2;(go_quiet (fail));go_wp2;(go_quiet (fail));go_wp2;go_roundw
   case rel=>exact⟨r+1,by omega,by go_num,HR.out.drewN _⟩
   case measure=>simp[intOf];omega
  ·go_wp2;go_ret;exact⟨rfl,HR.out.2.2⟩
def hOrd (a b : Nat → Int) : Int := match (List.range 12).find? fun j => a j != b j with
  | some k => if a k < b k then -1 else 1
  | none => 0
theorem ord_cases (a b:Nat→Int):(hOrd a b= -1∧∃k,k<12∧(∀j,j<k→a j=b j)∧a k<b k)∨(hOrd a b=1∧∃k,k<12∧(∀j,j<k→a j=b j)∧b k<a k)∨(hOrd a b=0∧∀j,j<12→a j=b j):=by
 unfold hOrd;cases hf:(List.range 12).find? fun j=>a j != b j with
 |none=>refine Or.inr (Or.inr ⟨rfl,fun j hj=>?_⟩);rw[List.find?_range_eq_none] at hf;simpa using hf j hj
 |some k=>
  rw[List.find?_range_eq_some] at hf;obtain⟨h1,h2,h3⟩:=hf;have hk:k<12:=(by simpa using h2);have hpre:∀j,j<k→a j=b j:=fun j hj=>(by simpa using h3 j hj);have hne:a k≠b k:=(by simpa using h1);by_cases hlt:a k<b k
  ·exact Or.inl ⟨by simp[hlt],k,hk,hpre,hlt⟩
  ·exact Or.inr (Or.inl ⟨by simp[hlt],k,hk,hpre,by omega⟩)
theorem cmp_any (a b:Nat→Int) (w:World):Calls Tryz.prog 161 #[.agg (hc a),.agg (hc b)] w fun e w'=>e= .returned (.int .i64 (hOrd a b))∧Below w.heap.size w w':=by
 rcases ord_cases a b with⟨e,k,hk,h1,h2⟩|⟨e,k,hk,h1,h2⟩|⟨e,h⟩
 ·rw[e];exact cmp_lt a b k hk h1 h2 w
 ·rw[e];exact cmp_gt a b k hk h1 h2 w
 ·rw[e];exact cmp_eq a b h w
theorem rord_any (a b:Nat→Int) (w:World):Calls Tryz.prog 119 #[.agg (hc a),.agg (hc b)] w fun e w'=>e= .returned (.int .i64 (hOrd a b))∧Below w.heap.size w w':=by
 rcases ord_cases a b with⟨e,k,hk,h1,h2⟩|⟨e,k,hk,h1,h2⟩|⟨e,h⟩
 ·rw[e];exact rord_lt a b k hk h1 h2 w
 ·rw[e];exact rord_gt a b k hk h1 h2 w
 ·rw[e];exact rord_eq a b h w
theorem ord_neg (a b:Nat→Int):hOrd a b= -hOrd b a:=by
 rcases ord_cases a b with⟨e,k,hk,h1,h2⟩|⟨e,k,hk,h1,h2⟩|⟨e,h⟩<;>rcases ord_cases b a with⟨e',k',hk',h1',h2'⟩|⟨e',k',hk',h1',h2'⟩|⟨e',h'⟩
 ·rcases Nat.lt_trichotomy k k' with g|rfl|g
  ·have:=h1' k g;omega
  ·omega
  ·have:=h1 k' g;omega
 ·omega
 ·have:=h' k hk;omega
 ·omega
 ·rcases Nat.lt_trichotomy k k' with g|rfl|g
  ·have:=h1' k g;omega
  ·omega
  ·have:=h1 k' g;omega
 ·have:=h' k hk;omega
 ·have:=h k' hk';omega
 ·have:=h k' hk';omega
 ·omega
theorem ord_zero (a b:Nat→Int):(hOrd a b==0)=hEq a b:=by
 rw[Bool.eq_iff_iff];simp only[beq_iff_eq,hEq,List.all_eq_true,List.mem_range];rcases ord_cases a b with⟨e,k,hk,h1,h2⟩|⟨e,k,hk,h1,h2⟩|⟨e,h⟩
 ·rw[e];exact⟨fun h=>absurd h (by decide),fun h=>absurd (h k hk) (by omega)⟩
 ·rw[e];exact⟨fun h=>absurd h (by decide),fun h=>absurd (h k hk) (by omega)⟩
 ·rw[e];exact⟨fun _=>h,fun _=>rfl⟩
theorem ord_trans (a b c:Nat→Int) (h1:hOrd a b≤0) (h2:hOrd b c≤0):hOrd a c≤0:=by
 rcases ord_cases a c with⟨e,_⟩|⟨e,k,hk,p,q⟩|⟨e,_⟩
 ·rw[e];decide
 ·exfalso;rcases ord_cases a b with⟨e1,k1,hk1,p1,q1⟩|⟨e1,_⟩|⟨e1,p1⟩
  ·rcases ord_cases b c with⟨e2,k2,hk2,p2,q2⟩|⟨e2,_⟩|⟨e2,p2⟩
   ·rcases Nat.lt_trichotomy k k1 with g|rfl|g
    ·have i1:=p1 k g;rcases Nat.lt_trichotomy k k2 with g'|rfl|g'
     ·have:=p2 k g';omega
     ·omega
     ·have:=p k2 g';have:=p1 k2 (by omega);omega
    ·rcases Nat.lt_trichotomy k k2 with g'|rfl|g'
     ·have:=p2 k g';omega
     ·omega
     ·have:=p k2 g';have:=p1 k2 (by omega);omega
    ·have i1:=p k1 g;rcases Nat.lt_trichotomy k1 k2 with g'|rfl|g'
     ·have:=p2 k1 g';omega
     ·omega
     ·have:=p k2 (by omega);have:=p1 k2 g';omega
   ·omega
   ·rcases Nat.lt_trichotomy k k1 with g|rfl|g
    ·have:=p1 k g;have:=p2 k hk;omega
    ·have:=p2 k hk;omega
    ·have:=p k1 g;have:=p2 k1 hk1;omega
  ·omega
  ·rcases ord_cases b c with⟨e2,k2,hk2,p2,q2⟩|⟨e2,_⟩|⟨e2,p2⟩
   ·rcases Nat.lt_trichotomy k k2 with g'|rfl|g'
    ·have:=p2 k g';have:=p1 k hk;omega
    ·have:=p1 k hk;omega
    ·have:=p k2 g';have:=p1 k2 hk2;omega
   ·omega
   ·have:=p1 k hk;have:=p2 k hk;omega
 ·rw[e];decide
end Go.Proofs.YtomnpfbebimpkaaGreatDoor
