/- Several of my texts as one: CubeLes, RefBits, RefWhole, RefText, CubeExa, RefMath, RefFrom, RefHas, RefMeet, RefEq. -/
import Derived.Test.YtomnpfbebimpkaaGreatDoorPackCube
import Derived.Deep.AppendLies
import Derived.Deep.DeepCutAuto
import Derived.Great.BuildSlice
import Derived.Laws.OwnMore
import Derived.Laws.IdiomStrings
import Derived.Lib.ConvBytes
import Derived.Test.YtomnpfbebimpkaaGreatDoorSq
/-
  The walks of the program's highest and Less.
-/
namespace Go.Proofs.YtomnpfbebimpkaaGreatDoor
set_option maxRecDepth 20000
open Go.RowKit
theorem cubeInfo:∃(i:TypeInfo) (z:Value),Tryz.prog.info? 37=some i∧i.zero=some z∧i.size=24∧i.bytes=192∧z.cells=#[.int .u64 0,.int .u64 0,.int .u64 0,.int .u64 0,.int .u64 0,.int .u64 0,.int .u64 0,.int .u64 0,.int .u64 0,.int .u64 0,.int .u64 0,.int .u64 0,.int .u64 0,.int .u64 0,.int .u64 0,.int .u64 0,.int .u64 0,.int .u64 0,.int .u64 0,.int .u64 0,.int .u64 0,.int .u64 0,.int .u64 0,.int .u64 0]:=by
 obtain⟨i,hi⟩:∃i,Tryz.prog.info? 37=some i:=Option.isSome_iff_exists.1 (by kernel_rfl);have h1:(Tryz.prog.info? 37).map (·.size)=some 24:=(by kernel_rfl);have h2:(Tryz.prog.info? 37).map (·.bytes)=some 192:=(by kernel_rfl);have h3:((Tryz.prog.info? 37).bind (·.zero)).map (·.cells)=some #[.int .u64 0,.int .u64 0,.int .u64 0,.int .u64 0,.int .u64 0,.int .u64 0,.int .u64 0,.int .u64 0,.int .u64 0,.int .u64 0,.int .u64 0,.int .u64 0,.int .u64 0,.int .u64 0,.int .u64 0,.int .u64 0,.int .u64 0,.int .u64 0,.int .u64 0,.int .u64 0,.int .u64 0,.int .u64 0,.int .u64 0,.int .u64 0]:=(by kernel_rfl);rw[hi] at h1 h2 h3;simp only[Option.map_some,Option.some.injEq,Option.bind_some,Option.map_eq_some_iff] at h1 h2 h3;obtain⟨z,hz,hc⟩:=h3;exact⟨i,z,hi,hz,h1,h2,hc⟩
section
variable {w : World} {b c : Nat → Int} {v : Value} {l : List (Nat → Int)} {W : World}
end
theorem upd_ne (c:Nat→Int) {k j:Nat} (x:Int) (h:j≠k):upd c k x j=c j:=if_neg h
theorem upd_eq (c:Nat→Int) (k:Nat) (x:Int):upd c k x k=x:=if_pos rfl
def Own1 (e : TypeId) (base : Nat) (v : Value) (xs : List Value) (W : World) : Prop := W.ownsRow base e 1 v xs.length xs
section
variable {e : TypeId} {base : Nat} {v : Value} {xs : List Value} {W W' : World}
theorem Own1.nil (e:TypeId) (base:Nat) (W:World):Own1 e base (.slice none 0 0) [] W:=World.ownsRow_nil W base _ 1
theorem Own1.below (h:Own1 e base v xs W) (hb:Below W.heap.size W W'):Own1 e base v xs W':=by
 rcases h with⟨h1,h2|⟨g,cap,cur,e1,e2,e3,e4⟩⟩
 ·exact⟨h1,.inl h2⟩
 ·exact⟨h1,.inr ⟨g,cap,cur,e1,e2,(hb.block g (Array.getElem?_eq_some_iff.1 e3).1).trans e3,e4⟩⟩
theorem Own1.ge (h:Own1 e base v xs W):∀k,v.ownBlock=some k→base≤k:=by
 rcases h with⟨_,⟨rfl,_⟩|⟨g,cap,cur,rfl,e2,_⟩⟩
 ·intro k hk;cases hk
 ·intro k hk;injection hk with hk;subst hk;exact e2
theorem Own1.at {g n cap:Nat} (h:Own1 e base (.slice (some ⟨g,0,none⟩) n cap) xs W) {i:Nat} {x:Value} (hx:xs[i]? =some x):W.cell? ⟨g,i,none⟩=some x:=by
 rcases h with⟨_,⟨e,_⟩|⟨g',cap',cur,e1,_,e3,_,_,_,e7⟩⟩
 ·cases e
 ·injection e1 with e1 _ _;injection e1 with e1;injection e1 with e1;subst e1;have hi:i<xs.length:=(List.getElem?_eq_some_iff.1 hx).1;rw[←e7,List.getElem?_take_of_lt (by omega)] at hx;rw[cell_of_row W g _ cur _ _ e3,←Array.getElem?_toList];exact hx
theorem Own1.grown {row:Option Nat} (h:Own1 e base v xs W) (hg:W.grownBy W' row) (hne:v.ownBlock=none∨v.ownBlock≠row):Own1 e base v xs W':=World.ownsRow.kept h hg hne
theorem Own1.lt (h:Own1 e base v xs W):∀k,v.ownBlock=some k→base≤k∧k<W.heap.size:=World.ownsRow.lt h
theorem Own1.block (h:Own1 e base v xs W) (hn:0<xs.length):∃g cap,v= .slice (some ⟨g,0,none⟩) xs.length cap∧base≤g∧g<W.heap.size:=World.ownsRow.form h hn
end
def OneCell (t : TypeId) : Prop := ∃ (i : TypeInfo) (z : Value), Tryz.prog.info? t = some i ∧ i.zero = some z ∧ i.size = 1 ∧ i.bytes ≤ 16 ∧ z.cells.size = 1
theorem oneCell_of {t:TypeId} (h1:(Tryz.prog.info? t).map (·.size)=some 1) (h2:(Tryz.prog.info? t).map (fun i=>decide (i.bytes≤16))=some true) (h3:((Tryz.prog.info? t).bind (·.zero)).map (·.cells.size)=some 1):OneCell t:=by
 cases hi:Tryz.prog.info? t with
 |none=>rw[hi] at h1;cases h1
 |some i=>rw[hi] at h1 h2 h3;simp only[Option.map_some,Option.some.injEq,Option.bind_some,Option.map_eq_some_iff,decide_eq_true_eq] at h1 h2 h3;obtain⟨z,hz,hc⟩:=h3;exact⟨i,z,hi,hz,h1,h2,hc⟩
theorem boolCell:OneCell 4:=oneCell_of (by kernel_rfl) (by kernel_rfl) (by kernel_rfl)
theorem byteCell:OneCell 5:=oneCell_of (by kernel_rfl) (by kernel_rfl) (by kernel_rfl)
theorem appendOne {ops:Array Oper} {rest:List Oper} {o:Oper} {a:Act} {w:World} {Q:Exit→Act→World→Prop} (hgd:o.guard=none) (s x:Operand) (t:TypeId) {e:TypeId} (hu:Tryz.prog.underlying t=some (.slice e)) (he:OneCell e) (ho:o.op= .call { callee:= .builtin .append,args:=#[s,x],argTypes:=#[t,t]}) (base:Nat) (v:Value) (l:List Value) (c:Value) (hs:a.eval s=v) (hown:Own1 e base v l w) (B:Nat) (hx:a.eval x= .slice (some ⟨B,0,none⟩) 1 1) (hB:Blk B #[c] e w) (hc:c.oneCell'=true) (hbase:base≤w.heap.size) (hlen:l.length≤1000000) (h:∀v' w',Own1 e base v' (l++[c]) w'→w.grownBy w' v.ownBlock→(v'.ownBlock=v.ownBlock∨v'.ownBlock=some w.heap.size)→wpList Tryz.prog ops Q rest (a.put o.dst v') w'):wpList Tryz.prog ops Q (o::rest) a w:=by
 obtain⟨i,z,hi,hz,hsz,hby,hzc⟩:=he;refine wpList_append_lies w hgd s x t ho base e i z 1 i.bytes hu hi hz hsz rfl hzc (by decide) v l.length l hs hown ⟨B,0,none⟩ 1 1 [c] hx rfl (World.news_of_block hB) (fun u hu=>by rw[List.mem_singleton.1 hu];exact hc) (by decide) (by unfold maxLen;omega) ?_ hbase _ rfl fun g cap w' h1 h2 h3 _=>h _ w' ?_ h2 (h3.elim (fun e=> .inl e.symm) (fun e=> .inr (by rw[e];rfl)))
 ·have:=Nat.mul_le_mul (show l.length+1≤1000001 by omega) hby;omega
 ·unfold Own1;rw[List.length_append];exact h1
def bitL (x : Int) (n : Nat) : List Value := (List.range n).map fun k => .bool (x.toNat.testBit (n - 1 - k))
def BitsRet (w : World) (l : List Value) (e : Ending) (w' : World) : Prop := ∃ v, e = .returned v ∧ Own1 4 w.heap.size v l w' ∧ Below w.heap.size w w'
theorem shr_bit (x:Int) (hx:0≤x∧x<18446744073709551616) (k:Nat):(bits .and .u64 (x / 2 ^ k) 1==1)=x.toNat.testBit k:=by
 obtain⟨n,rfl⟩:=Int.eq_ofNat_of_zero_le hx.1;have hp:(2:Int) ^ k=((2 ^ k:Nat):Int):=(by push_cast;rfl);rw[hp,←Int.natCast_ediv];have hle:n / 2 ^ k≤n:=Nat.div_le_self _ _;rw[Int.toNat_natCast,Nat.testBit_eq_decide_div_mod_eq];generalize n / 2 ^ k=q at*;rw[u64_and _ _ (by omega) (by omega) (by decide) (by decide),Int.toNat_natCast,show(1:Int).toNat=1 from rfl,Nat.and_one_is_mod];by_cases h:q % 2=1
 ·simp[h]
 ·have:q % 2=0:=(by omega);simp[this]
theorem bitL_len (x:Int) (n:Nat):(bitL x n).length=n:=by simp[bitL]
theorem bitL_at (x:Int) (n m:Nat) (h:m<n):(bitL x n)[m]? =some (.bool (x.toNat.testBit (n - 1 - m))):=by simp[bitL,h]
theorem take_next {l:List Value} {m:Nat} {x:Value} (h:l[m]? =some x):l.take (m+1)=l.take m++[x]:=by
 rw[List.take_add_one,h];rfl
set_option maxHeartbeats 400000 in
theorem rbits_any (x:Int) (hx:0≤x∧x<18446744073709551616) (n:Nat) (hn:n≤48) (w:World):Calls Tryz.prog 88 #[.int .u64 x,.int .i64 n] w (BitsRet w (bitL x n)):=by
 have HX:=qH hx;clear hx;(go_enter Tryz.func88,Tryz.ntmps88);go_wp2;go_loopg [5,6] n (fun g out k wr=>∃m:Nat,m+g=n∧k= .int .i64 ((n:Int) - 1 - m)∧Own1 4 w.heap.size out ((bitL x n).take m) wr∧Below w.heap.size w wr)
 case atStart=>exact⟨0,by omega,by simp,Own1.nil _ _ _,Below.refl _ _⟩
 case round=>
  obtain⟨m,hm,rfl,ho,hB⟩:=hrel;have HO:=qH ho;have HB:=qH hB;clear ho hB;by_cases hlt:m<n
  ·obtain⟨k,hk⟩:∃k:Nat,(n:Int) - 1 - m=k:=⟨n - 1 - m,by omega⟩;have hk48:k<48:=(by omega);have hbit:=shr_bit x HX.out k;have HN:=qH (take_next (bitL_at x n m hlt));rw[show n - 1 - m=k by omega] at HN;have hlen:((bitL x n).take m).length≤1000000:=(by rw[List.length_take,bitL_len];omega);have HK:=qH hk;rw[hk];clear hk;have B1:=qH (Blk.new wr #[.bool (x.toNat.testBit k)] 4);have O1:=qH (HO.out.below (below1 wr (.cells #[.bool (x.toNat.testBit k)] 4)));have hsz:w.heap.size≤(wr.alloc (.cells #[.bool (x.toNat.testBit k)] 4)).heap.size:=(by have:=HB.out.size;simp;omega);(go_wp2_with(refine appendOne rfl _ _ 138 Tryz.underlying138 boolCell rfl w.heap.size u5 _ (.bool (x.toNat.testBit k)) rfl O1.out wr.heap.size rfl B1.out rfl hsz hlen (fun v' w' ho hg _=>?_)));rw[←HN.out] at ho;have HB1:=qH ((HB.out.alloc HB.out.size (.cells #[.bool (x.toNat.testBit k)] 4)).grown hg hsz O1.out.ge);have HO1:=qH ho;clear ho hg B1 O1 HO HB;go_roundg (n - (m+1))
   case measure=>omega
   case rel=>exact⟨m+1,by omega,by have:=HK.out;go_num,HO1.out,HB1.out⟩
  ·obtain rfl:m=n:=(by omega);have hneg:(m:Int) - 1 - m= -1:=(by omega);rw[hneg];have e:=HO.out;rw[List.take_of_length_le (by rw[bitL_len];omega)] at e;have HE:=qH e;clear e;go_wp2;go_ret;exact⟨_,rfl,HE.out,HB.out⟩
def byteV (l : List UInt8) : List Value := l.map fun c => .int .u8 (c.toNat : Int)
theorem byteV_len (l:List UInt8):(byteV l).length=l.length:=by simp[byteV]
theorem byteV_snoc (l:List UInt8) (c:UInt8):byteV (l++[c])=byteV l++[.int .u8 (c.toNat:Int)]:=by simp[byteV]
theorem conv_own {base g n cap:Nat} {l:List UInt8} {W:World} (h:Own1 5 base (.slice (some ⟨g,0,none⟩) n cap) (byteV l) W) (hn:n=l.length):(convert 113 9 (.slice (some ⟨g,0,none⟩) n cap)).run Tryz.prog W= .ok (.string ⟨l.toArray⟩) W:=by
 subst hn;refine run_convert_bytes_back W 113 9 5 ⟨g,0,none⟩ cap l Tryz.underlying113 Tryz.underlying5 Tryz.underlying9 fun j hj=>?_;rw[Addr.add_mid,Nat.zero_add];exact h.at (by simp[byteV,hj])
def chB (b : Bool) : UInt8 := if b then 49 else 48
def fieldL (x : Int) (n : Nat) : List UInt8 := (List.range n).map fun k => chB (x.toNat.testBit (n - 1 - k))
def wholeTo (h : Nat → Int) : Nat → List UInt8
  | 0 => []
  | r + 1 => wholeTo h r ++ fieldL (h r) (sz r).toNat
theorem fieldL_len (x:Int) (n:Nat):(fieldL x n).length=n:=by simp[fieldL]
theorem fieldL_at (x:Int) (n m:Nat) (h:m<n):(fieldL x n)[m]? =some (chB (x.toNat.testBit (n - 1 - m))):=by simp[fieldL,h]
theorem take_next8 {l:List UInt8} {m:Nat} {x:UInt8} (h:l[m]? =some x):l.take (m+1)=l.take m++[x]:=by
 rw[List.take_add_one,h];rfl
theorem wholeTo_len (h:Nat→Int):∀r,(wholeTo h r).length≤r*48
 |0=>by simp[wholeTo]
 |r+1=>by have:=wholeTo_len h r;have:=sz_le r;rw[wholeTo,List.length_append,fieldL_len];omega
theorem sz_pos (r:Nat) (h:r<12):0<(sz r).toNat:=by
 match r,h with
 |0,_|1,_|2,_|3,_|4,_|5,_|6,_|7,_|8,_|9,_|10,_|11,_=>decide
 |r+12,h=>exact absurd h (by omega)
def TxtS (w : World) (cs : Array Value) (t : TypeId) (out : Value) (l : List UInt8) (W : World) : Prop := Blk w.heap.size cs t W ∧ Own1 5 (w.heap.size + 1) out (byteV l) W ∧ Below w.heap.size w W
section
variable {w : World} {cs : Array Value} {t : TypeId} {out : Value} {l : List UInt8} {W W' : World}
theorem TxtS.below (hb:Below W.heap.size W W') (h:TxtS w cs t out l W):TxtS w cs t out l W':=⟨h.1.below hb,h.2.1.below hb,h.2.2.trans (hb.mono h.2.2.size)⟩
theorem TxtS.lt (h:TxtS w cs t out l W):w.heap.size<W.heap.size:=h.1.lt
theorem TxtS.grown {out':Value} {l':List UInt8} (h:TxtS w cs t out l W) (hg:W.grownBy W' out.ownBlock) (ho:Own1 5 (w.heap.size+1) out' (byteV l') W'):TxtS w cs t out' l' W':=by
 have hge:=h.2.1.ge;exact⟨(hg.block _ h.1.lt fun e=>by have:=hge _ e.symm;omega).trans h.1,ho,h.2.2.grown hg h.2.2.size fun k e=>by have:=hge k e;omega⟩
end
set_option maxHeartbeats 1000000 in
theorem rwhole_any (h:Nat→Int) (hh:Wf h) (w:World):Calls Tryz.prog 120 #[.agg (hc h)] w fun e w'=>e= .returned (.string ⟨(wholeTo h 12).toArray⟩)∧Below w.heap.size w w':=by
 have HH:=qH hh;have S0:=qH (show TxtS w (hc h) 35 (.slice none 0 0) [] _ from⟨Blk.new w (hc h) 35,Own1.nil _ _ _,below1 w _⟩);clear hh;(go_enter Tryz.func120,Tryz.ntmps120);go_wp2;go_loopg [4,3] 12 (fun k i out wr=>∃r:Nat,r+k=12∧i= .int .i64 r∧TxtS w (hc h) 35 out (wholeTo h r) wr)
 case atStart=>exact⟨0,by omega,rfl,S0.out⟩
 case round=>
  clear S0;obtain⟨r,hr,rfl,hS⟩:=hrel;have HS:=qH hS;clear hS;by_cases hlt:r<12
  ·have hrI:(r:Int)<12:=(by omega);have hdI:decide ((r:Int)<12)=true:=decide_eq_true hrI;obtain⟨s0,s1⟩:=sz_le r;have hn0:=sz_pos r hlt;obtain⟨n,hn⟩:∃n:Nat,sz r=n:=⟨(sz r).toNat,by omega⟩;have hnn:(sz r).toNat=n:=(by omega);rw[hnn] at hn0;have HB5:=qH fun W=>rbits_any (h r) (HH.out r) n (by omega) W;have hn48:n≤48:=(by omega);have hwl:=wholeTo_len h r;have HNN:=qH hnn;clear s0 s1 hnn;(go_wp2_with fail);clear hdI;refine wp_region_held_drew (S:=TxtS w (hc h) 35 u3 (wholeTo h r)) (by kernel_rfl) (TxtS.below (Below.refl _ _).drew HS.out) (fun hS=>?_);clear HS;refine sR 0 hS ?_;refine sR 1 hS ?_;refine sV 2 rfl (fun w hSw=>by have hq:=cell_row hSw.1 hlt;go_simp<;>with_reducible rfl) hS ?_;refine sR 3 hS ?_;refine sC 4 (fun K hK=>?_);go_simp;refine(rsize_in r _ hlt).mono ?_;rintro e v1 ⟨rfl,hv1⟩;refine hK.out _ _ (TxtS.below hv1 hS) (fun hS=>?_);clear hK K;clear hv1;(try simp only[Act.put,sA,sB,sE]);refine sC 5 (fun K hK=>?_);go_simp;refine(HB5.out _).mono ?_;rintro e v2 ⟨vb,rfl,hob,hv2⟩;obtain⟨g,cap,hvb,hg1,hg2⟩:=hob.block (by rw[bitL_len];exact hn0);rw[bitL_len] at hvb;subst hvb;have OB:=qH hob;have GB:=qH hg1;have OLT:=qH hS.2.1.lt;refine hK.out _ _ (TxtS.below hv2 hS) (fun hS=>?_);clear hK K hob hg1 hg2 hv2;(try simp only[Act.put,sA,sB,sE]);refine sR 6 hS ?_;refine sD ?_;have HS:=qH hS;have NE:=qH (show u3.ownBlock≠some g from fun e=>by have:=(OLT.out g e).2;have:=GB.out;omega);clear hS OLT GB HB5 hn;(go_wp2_with fail);go_loopg [6,3] n (fun kk k out wr=>∃q:Nat,q+kk=n∧k= .int .i64 q∧TxtS w (hc h) 35 out (wholeTo h r++(fieldL (h r) n).take q) wr∧Own1 4 v1.heap.size (.slice (some ⟨g,0,none⟩) n cap) (bitL (h r) n) wr∧out.ownBlock≠some g)
   case atStart=>exact⟨0,by omega,rfl,by rw[List.take_zero,List.append_nil];exact HS.out,OB.out,NE.out⟩
   case round=>
    clear HS OB NE;obtain⟨q,hq,rfl,hS,hob,hne⟩:=hrel;have HS:=qH hS;have OB1:=qH hob;have NE:=qH hne;clear hS hob hne;by_cases hqn:q<n
    ·have hqI:(q:Int)<(n:Int):=(by omega);have hdQ:decide ((q:Int)<(n:Int))=true:=decide_eq_true hqI;have hN:=take_next8 (fieldL_at (h r) n q hqn);have hcell:=OB1.out.at (bitL_at (h r) n q hqn);have hlen:(byteV (wholeTo h r++(fieldL (h r) n).take q)).length≤1000000:=(by rw[byteV_len,List.length_append,List.length_take,fieldL_len];omega);cases hbit:(h r).toNat.testBit (n - 1 - q)
     ·rw[hbit] at hN hcell;have HN:=qH hN;clear hN hbit;have B1:=qH (Blk.new wr #[.int .u8 48] 5);have S1:=qH (TxtS.below (below1 wr (.cells #[.int .u8 48] 5)) HS.out);have hsz:w.heap.size+1≤(wr.alloc (.cells #[.int .u8 48] 5)).heap.size:=S1.out.lt;(go_wp2_with(refine appendOne rfl _ _ 113 Tryz.underlying113 byteCell rfl (w.heap.size+1) u3 _ (.int .u8 48) rfl S1.out.2.1 wr.heap.size rfl B1.out rfl hsz hlen (fun v' w' ho hg hat=>?_)));have HO1:=qH (show Own1 5 (w.heap.size+1) v' (byteV (wholeTo h r++(fieldL (h r) n).take (q+1))) w' by rw[HN.out,←List.append_assoc,byteV_snoc];exact ho);have S2:=qH (S1.out.grown hg HO1.out);have OB2:=qH ((OB1.out.below (below1 wr (.cells #[.int .u8 48] 5))).grown hg (.inr fun e=>NE.out e.symm));have NE2:=qH (show v'.ownBlock≠some g from fun e=>by
       rcases hat with hat|hat
       ·rw[hat] at e;exact NE.out e
       ·rw[hat] at e;injection e with e;have:=(OB1.out.lt g rfl).2;simp at e;omega)
      clear ho hg hat HO1 S1 B1 HS OB1 NE;go_roundg (n - (q+1))
      case measure=>omega
      case rel=>exact⟨q+1,by omega,by go_num,S2.out,OB2.out,NE2.out⟩
     ·rw[hbit] at hN hcell;have HN:=qH hN;clear hN hbit;have B1:=qH (Blk.new wr #[.int .u8 49] 5);have S1:=qH (TxtS.below (below1 wr (.cells #[.int .u8 49] 5)) HS.out);have hsz:w.heap.size+1≤(wr.alloc (.cells #[.int .u8 49] 5)).heap.size:=S1.out.lt;(go_wp2_with(refine appendOne rfl _ _ 113 Tryz.underlying113 byteCell rfl (w.heap.size+1) u3 _ (.int .u8 49) rfl S1.out.2.1 wr.heap.size rfl B1.out rfl hsz hlen (fun v' w' ho hg hat=>?_)));have HO1:=qH (show Own1 5 (w.heap.size+1) v' (byteV (wholeTo h r++(fieldL (h r) n).take (q+1))) w' by rw[HN.out,←List.append_assoc,byteV_snoc];exact ho);have S2:=qH (S1.out.grown hg HO1.out);have OB2:=qH ((OB1.out.below (below1 wr (.cells #[.int .u8 49] 5))).grown hg (.inr fun e=>NE.out e.symm));have NE2:=qH (show v'.ownBlock≠some g from fun e=>by
       rcases hat with hat|hat
       ·rw[hat] at e;exact NE.out e
       ·rw[hat] at e;injection e with e;have:=(OB1.out.lt g rfl).2;simp at e;omega)
      clear ho hg hat HO1 S1 B1 HS OB1 NE;go_roundg (n - (q+1))
      case measure=>omega
      case rel=>exact⟨q+1,by omega,by go_num,S2.out,OB2.out,NE2.out⟩
    ·have hdQ:decide ((q:Int)<(n:Int))=false:=decide_eq_false (by omega);have HW:=qH (show wholeTo h (r+1)=wholeTo h r++(fieldL (h r) n).take q by rw[wholeTo,HNN.out,List.take_of_length_le (by rw[fieldL_len];omega)]);(go_wp2_with fail);go_roundg (12 - (r+1))
     case measure=>omega
     case rel=>exact⟨r+1,by omega,by go_num,by rw[HW.out];exact HS.out⟩
  ·obtain rfl:r=12:=(by omega);have hl0:0<(byteV (wholeTo h 12)).length:=(by rw[byteV_len,wholeTo,List.length_append,fieldL_len];have:=sz_pos 11 (by omega);omega);obtain⟨g,cap,hv,_,_⟩:=HS.out.2.1.block hl0;rw[byteV_len] at hv;subst hv;have hcv:=conv_own HS.out.2.1 rfl;go_wp2;go_ret;exact⟨rfl,HS.out.2.2⟩
def chT (v k : Bool) : UInt8 := if k then (if v then 49 else 48) else 120
theorem ch_cases (v k:Bool):(k=false∧chT v k=120)∨(v=true∧k=true∧chT v k=49)∨(v=false∧k=true∧chT v k=48):=by cases v<;>cases k<;>decide
def fieldT (x y : Int) (n : Nat) : List UInt8 := (List.range n).map fun k => chT (x.toNat.testBit (n - 1 - k)) (y.toNat.testBit (n - 1 - k))
theorem fieldT_len (x y:Int) (n:Nat):(fieldT x y n).length=n:=by simp[fieldT]
theorem fieldT_at (x y:Int) (n m:Nat) (h:m<n):(fieldT x y n)[m]? =some (chT (x.toNat.testBit (n - 1 - m)) (y.toNat.testBit (n - 1 - m))):=by simp[fieldT,h]
def textTo (c : Nat → Int) : Nat → List UInt8
  | 0 => []
  | r + 1 => textTo c r ++ fieldT (c r) (c (12 + r)) (sz r).toNat
theorem textTo_len (c:Nat→Int):∀r,(textTo c r).length≤r*48
 |0=>by simp[textTo]
 |r+1=>by have:=textTo_len c r;have:=sz_le r;rw[textTo,List.length_append,fieldT_len];omega
def okTo (c : Nat → Int) : Nat → Bool
  | 0 => sndB (care c)
  | r + 1 => okTo c r && !overB c r
theorem okTo_zero (c:Nat→Int):okTo c 0=sndB (care c):=rfl
theorem okTo_succ (c:Nat→Int) (r:Nat):okTo c (r+1)=(okTo c r&& !overB c r):=rfl
theorem ne_next {v v':Value} {g H:Nat} (hat:v'.ownBlock=v.ownBlock∨v'.ownBlock=some H) (hne:v.ownBlock≠some g) (hg:g<H):v'.ownBlock≠some g:=fun e=>by
 rcases hat with h|h
 ·rw[h] at e;exact hne e
 ·rw[h] at e;injection e with e;omega
set_option maxHeartbeats 2000000 in
theorem rtext_of (c:Nat→Int) (hh:Wf c) (w:World):Calls Tryz.prog 57 #[.agg (cc c)] w fun e w'=>e= .returned (.tuple #[.string ⟨(textTo c 12).toArray⟩,.bool (okTo c 12)])∧Below w.heap.size w w':=by
 have HH:=qH hh;have S0:=qH (show TxtS w (cc c) 37 (.slice none 0 0) [] _ from⟨Blk.new w (cc c) 37,Own1.nil _ _ _,below1 w _⟩);clear hh;(go_enter Tryz.func57,Tryz.ntmps57);(go_wp2_with(refine wpList_load_mid rfl 35 _ rfl w.heap.size 12 rfl (hl (care c)) _ (careR S0.out.1) Tryz.underlying35 rfl infoHead ?_));refine(rhead_any (care c) _).mono ?_;rintro e w1 ⟨rfl,hw1⟩;have S1:=qH (TxtS.below hw1 S0.out);clear hw1 S0;have OK0:=qH (okTo_zero c);generalize sndB (care c)=k0 at*;(go_wp2_with fail);go_loopg [6,4,5] 12 (fun k i out ok wr=>∃r:Nat,r+k=12∧i= .int .i64 r∧ok= .bool (okTo c r)∧TxtS w (cc c) 37 out (textTo c r) wr)
 case atStart=>exact⟨0,by omega,rfl,by rw[OK0.out],S1.out⟩
 case round=>
  clear S1 OK0;obtain⟨r,hr,rfl,rfl,hS⟩:=hrel;have HS:=qH hS;clear hS;by_cases hlt:r<12
  ·have hrI:(r:Int)<12:=(by omega);have hdI:decide ((r:Int)<12)=true:=decide_eq_true hrI;obtain⟨s0,s1⟩:=sz_le r;have hn0:=sz_pos r hlt;obtain⟨n,hn⟩:∃n:Nat,sz r=n:=⟨(sz r).toNat,by omega⟩;have hnn:(sz r).toNat=n:=(by omega);rw[hnn] at hn0;have HBV:=qH fun W=>rbits_any (c r) (HH.out r) n (by omega) W;have HBC:=qH fun W=>rbits_any (c (12+r)) (HH.out (12+r)) n (by omega) W;have hn48:n≤48:=(by omega);have hwl:=textTo_len c r;have HNN:=qH hnn;have HOK:=qH (okTo_succ c r);clear s0 s1 hnn;have k1:=cellC HS.out.1 (show 12+r<24 by omega);have k2:=cellC HS.out.1 (show r<24 by omega);(go_upto_region 6 with(fail));(go_quiet (fail));clear k1 k2 hdI;have HS1:=qH (TxtS.below (belowDrewN wr nq) HS.out);clear HS;generalize wr.drewN nq=W1 at*;have hov:(bits .andNot .u64 (c r) (c (12+r)) != 0)=overB c r:=rfl;rw[hov];clear hov;(go_upto_if 26 with(fail));go_cut [5] (fun ok W=>ok= .bool (okTo c (r+1))∧TxtS w (cc c) 37 u4 (textTo c r) W)
   case first=>
    cases ho:overB c r
    ·rw[ho] at HOK;have HK:=qH (show okTo c (r+1)=okTo c r by rw[HOK.out];simp);(go_wp2_with fail);go_meet
     case rel=>exact⟨by rw[HK.out],HS1.out⟩
    ·rw[ho] at HOK;have HK:=qH (show okTo c (r+1)=false by rw[HOK.out];simp);(go_wp2_with fail);go_meet
     case rel=>exact⟨by rw[HK.out],HS1.out⟩
   case rest=>
    clear HS1 HOK;obtain⟨rfl,hS0⟩:=hcut;(go_wp2_with fail);refine wp_region_held_drew (S:=TxtS w (cc c) 37 u4 (textTo c r)) (by kernel_rfl) (TxtS.below (Below.refl _ _).drew hS0) (fun hS=>?_);clear hS0;refine sR 0 hS ?_;refine sR 1 hS ?_;refine sR 2 hS ?_;refine sV 3 rfl (fun w hSw=>by have hq:=cellC hSw.1 (show r<24 by omega);go_simp<;>with_reducible rfl) hS ?_;refine sR 4 hS ?_;refine sR 7 hS ?_;refine sR 8 hS ?_;refine sR 9 hS ?_;refine sV 10 rfl (fun w hSw=>by have hq:=cellC hSw.1 (show 12+r<24 by omega);go_simp<;>with_reducible rfl) hS ?_;refine sR 11 hS ?_;refine sC 5 (fun K hK=>?_);go_simp;refine(rsize_in r _ hlt).mono ?_;rintro e v1 ⟨rfl,hv1⟩;refine hK.out _ _ (TxtS.below hv1 hS) (fun hS=>?_);clear hK K;clear hv1;(try simp only[Act.put,sA,sB,sE]);refine sC 6 (fun K hK=>?_);go_simp;refine(HBV.out _).mono ?_;rintro e v2 ⟨vb,rfl,hob,hv2⟩;obtain⟨ga,capa,hvb,hg1,hg2⟩:=hob.block (by rw[bitL_len];exact hn0);rw[bitL_len] at hvb;subst hvb;have OA:=qH hob;have GOA:=qH hg1;have OLTOA:=qH hS.2.1.lt;refine hK.out _ _ (TxtS.below hv2 hS) (fun hS=>?_);clear hK K hob hg1 hg2 hv2;(try simp only[Act.put,sA,sB,sE]);refine sC 12 (fun K hK=>?_);go_simp;refine(rsize_in r _ hlt).mono ?_;rintro e v3 ⟨rfl,hv3⟩;refine hK.out _ _ (TxtS.below hv3 hS) (fun hS=>?_);clear hK K;have OA:=qH (OA.out.below hv3);clear hv3;(try simp only[Act.put,sA,sB,sE]);refine sC 13 (fun K hK=>?_);go_simp;refine(HBC.out _).mono ?_;rintro e v4 ⟨vb,rfl,hob,hv4⟩;obtain⟨gb,capb,hvb,hg1,hg2⟩:=hob.block (by rw[bitL_len];exact hn0);rw[bitL_len] at hvb;subst hvb;have OB:=qH hob;have GOB:=qH hg1;have OLTOB:=qH hS.2.1.lt;have OA:=qH (OA.out.below hv4);refine hK.out _ _ (TxtS.below hv4 hS) (fun hS=>?_);clear hK K hob hg1 hg2 hv4;(try simp only[Act.put,sA,sB,sE]);refine sR 14 hS ?_;refine sR 15 hS ?_;refine sD ?_;have HS:=qH hS;have NA:=qH (show u4.ownBlock≠some ga from fun e=>by have:=(OLTOA.out ga e).2;have:=GOA.out;omega);have NB:=qH (show u4.ownBlock≠some gb from fun e=>by have:=(OLTOB.out gb e).2;have:=GOB.out;omega);clear hS OLTOA GOA OLTOB GOB HBV HBC hn;(go_wp2_with fail);go_loopg [9,4] n (fun kk k out wr=>∃q:Nat,q+kk=n∧k= .int .i64 q∧TxtS w (cc c) 37 out (textTo c r++(fieldT (c r) (c (12+r)) n).take q) wr∧Own1 4 v1.heap.size (.slice (some ⟨ga,0,none⟩) n capa) (bitL (c r) n) wr∧Own1 4 v3.heap.size (.slice (some ⟨gb,0,none⟩) n capb) (bitL (c (12+r)) n) wr∧out.ownBlock≠some ga∧out.ownBlock≠some gb)
    case atStart=>exact⟨0,by omega,rfl,by rw[List.take_zero,List.append_nil];exact HS.out,OA.out,OB.out,NA.out,NB.out⟩
    case round=>
     clear HS OA OB NA NB;obtain⟨q,hq,rfl,hS,hoa,hob,hna,hnb⟩:=hrel;have HS:=qH hS;have OA1:=qH hoa;have OB1:=qH hob;have NA:=qH hna;have NB:=qH hnb;clear hS hoa hob hna hnb;by_cases hqn:q<n
     ·have hqI:(q:Int)<(n:Int):=(by omega);have hdQ:decide ((q:Int)<(n:Int))=true:=decide_eq_true hqI;have hN:=take_next8 (fieldT_at (c r) (c (12+r)) n q hqn);have ca:=OA1.out.at (bitL_at (c r) n q hqn);have cb:=OB1.out.at (bitL_at (c (12+r)) n q hqn);have hlen:(byteV (textTo c r++(fieldT (c r) (c (12+r)) n).take q)).length≤1000000:=(by rw[byteV_len,List.length_append,List.length_take,fieldT_len];omega);rcases ch_cases ((c r).toNat.testBit (n - 1 - q)) ((c (12+r)).toNat.testBit (n - 1 - q)) with⟨e1,e2⟩|⟨e0,e1,e2⟩|⟨e0,e1,e2⟩
      ·rw[e2] at hN;rw[e1] at cb;have HN:=qH hN;clear hN e1 e2 ca;have B1:=qH (Blk.new wr #[.int .u8 120] 5);have S1:=qH (TxtS.below (below1 wr (.cells #[.int .u8 120] 5)) HS.out);have hsz:w.heap.size+1≤(wr.alloc (.cells #[.int .u8 120] 5)).heap.size:=S1.out.lt;(go_wp2_with(refine appendOne rfl _ _ 113 Tryz.underlying113 byteCell rfl (w.heap.size+1) u4 _ (.int .u8 120) rfl S1.out.2.1 wr.heap.size rfl B1.out rfl hsz hlen (fun v' w' ho hg hat=>?_)));have HO1:=qH (show Own1 5 (w.heap.size+1) v' (byteV (textTo c r++(fieldT (c r) (c (12+r)) n).take (q+1))) w' by rw[HN.out,←List.append_assoc,byteV_snoc];exact ho);have S2:=qH (S1.out.grown hg HO1.out);have OA2:=qH ((OA1.out.below (below1 wr (.cells #[.int .u8 120] 5))).grown hg (.inr fun e=>NA.out e.symm));have OB2:=qH ((OB1.out.below (below1 wr (.cells #[.int .u8 120] 5))).grown hg (.inr fun e=>NB.out e.symm));have NA2:=qH (ne_next hat NA.out (by have:=(OA1.out.lt ga rfl).2;simp;omega));have NB2:=qH (ne_next hat NB.out (by have:=(OB1.out.lt gb rfl).2;simp;omega));clear ho hg hat HO1 S1 B1 HS OA1 OB1 NA NB;go_roundg (n - (q+1))
       case measure=>omega
       case rel=>exact⟨q+1,by omega,by go_num,S2.out,OA2.out,OB2.out,NA2.out,NB2.out⟩
      ·rw[e2] at hN;rw[e1] at cb;rw[e0] at ca;have HN:=qH hN;clear hN e0 e1 e2;have B1:=qH (Blk.new wr #[.int .u8 49] 5);have S1:=qH (TxtS.below (below1 wr (.cells #[.int .u8 49] 5)) HS.out);have hsz:w.heap.size+1≤(wr.alloc (.cells #[.int .u8 49] 5)).heap.size:=S1.out.lt;(go_wp2_with(refine appendOne rfl _ _ 113 Tryz.underlying113 byteCell rfl (w.heap.size+1) u4 _ (.int .u8 49) rfl S1.out.2.1 wr.heap.size rfl B1.out rfl hsz hlen (fun v' w' ho hg hat=>?_)));have HO1:=qH (show Own1 5 (w.heap.size+1) v' (byteV (textTo c r++(fieldT (c r) (c (12+r)) n).take (q+1))) w' by rw[HN.out,←List.append_assoc,byteV_snoc];exact ho);have S2:=qH (S1.out.grown hg HO1.out);have OA2:=qH ((OA1.out.below (below1 wr (.cells #[.int .u8 49] 5))).grown hg (.inr fun e=>NA.out e.symm));have OB2:=qH ((OB1.out.below (below1 wr (.cells #[.int .u8 49] 5))).grown hg (.inr fun e=>NB.out e.symm));have NA2:=qH (ne_next hat NA.out (by have:=(OA1.out.lt ga rfl).2;simp;omega));have NB2:=qH (ne_next hat NB.out (by have:=(OB1.out.lt gb rfl).2;simp;omega));clear ho hg hat HO1 S1 B1 HS OA1 OB1 NA NB;go_roundg (n - (q+1))
       case measure=>omega
       case rel=>exact⟨q+1,by omega,by go_num,S2.out,OA2.out,OB2.out,NA2.out,NB2.out⟩
      ·rw[e2] at hN;rw[e1] at cb;rw[e0] at ca;have HN:=qH hN;clear hN e0 e1 e2;have B1:=qH (Blk.new wr #[.int .u8 48] 5);have S1:=qH (TxtS.below (below1 wr (.cells #[.int .u8 48] 5)) HS.out);have hsz:w.heap.size+1≤(wr.alloc (.cells #[.int .u8 48] 5)).heap.size:=S1.out.lt;(go_wp2_with(refine appendOne rfl _ _ 113 Tryz.underlying113 byteCell rfl (w.heap.size+1) u4 _ (.int .u8 48) rfl S1.out.2.1 wr.heap.size rfl B1.out rfl hsz hlen (fun v' w' ho hg hat=>?_)));have HO1:=qH (show Own1 5 (w.heap.size+1) v' (byteV (textTo c r++(fieldT (c r) (c (12+r)) n).take (q+1))) w' by rw[HN.out,←List.append_assoc,byteV_snoc];exact ho);have S2:=qH (S1.out.grown hg HO1.out);have OA2:=qH ((OA1.out.below (below1 wr (.cells #[.int .u8 48] 5))).grown hg (.inr fun e=>NA.out e.symm));have OB2:=qH ((OB1.out.below (below1 wr (.cells #[.int .u8 48] 5))).grown hg (.inr fun e=>NB.out e.symm));have NA2:=qH (ne_next hat NA.out (by have:=(OA1.out.lt ga rfl).2;simp;omega));have NB2:=qH (ne_next hat NB.out (by have:=(OB1.out.lt gb rfl).2;simp;omega));clear ho hg hat HO1 S1 B1 HS OA1 OB1 NA NB;go_roundg (n - (q+1))
       case measure=>omega
       case rel=>exact⟨q+1,by omega,by go_num,S2.out,OA2.out,OB2.out,NA2.out,NB2.out⟩
     ·have hdQ:decide ((q:Int)<(n:Int))=false:=decide_eq_false (by omega);have HW:=qH (show textTo c (r+1)=textTo c r++(fieldT (c r) (c (12+r)) n).take q by rw[textTo,HNN.out,List.take_of_length_le (by rw[fieldT_len];omega)]);(go_wp2_with fail);go_roundg (12 - (r+1))
      case measure=>omega
      case rel=>exact⟨r+1,by omega,by go_num,rfl,by rw[HW.out];exact HS.out⟩
  ·obtain rfl:r=12:=(by omega);have hl0:0<(byteV (textTo c 12)).length:=(by rw[byteV_len,textTo,List.length_append,fieldT_len];have:=sz_pos 11 (by omega);omega);obtain⟨g,cap,hv,_,_⟩:=HS.out.2.1.block hl0;rw[byteV_len] at hv;subst hv;have hcv:=conv_own HS.out.2.1 rfl;go_wp2;(go_ret2);exact⟨rfl,HS.out.2.2⟩
def exactV (h : Nat → Int) : Nat → Int := fun j => if j < 12 then h j else mkv (sz (j - 12)).toNat (sz (j - 12)).toNat
theorem exact_care {h:Nat→Int} {j t:Nat} (hj:j<12) (ht:t<(sz j).toNat):(exactV h (12+j)).toNat.testBit t=true:=by
 unfold exactV;rw[if_neg (by omega),show 12+j - 12=j by omega,mkv_bit _ _ _ (Nat.le_refl _),decide_eq_true];omega
theorem exact_val (h:Nat→Int) {j:Nat} (hj:j<12):exactV h j=h j:=by unfold exactV;rw[if_pos hj]
theorem exact_field (h:Nat→Int) {r:Nat} (hr:r<12):fieldT (exactV h r) (exactV h (12+r)) (sz r).toNat=fieldL (h r) (sz r).toNat:=by
 unfold fieldT fieldL;refine List.map_congr_left fun k hk=>?_;have hk':k<(sz r).toNat:=(by simpa using hk);rw[exact_care hr (by omega),exact_val h hr];rfl
theorem okTo_iff (c:Nat→Int):∀r,okTo c r=true↔sndB (care c)=true∧∀j,j<r→overB c j=false
 |0=>by simp[okTo]
 |r+1=>by
  rw[okTo,Bool.and_eq_true,okTo_iff c r];constructor
  ·rintro⟨⟨h1,h2⟩,h3⟩;refine⟨h1,fun j hj=>?_⟩;by_cases e:j=r
   ·subst e;simpa using h3
   ·exact h2 j (by omega)
  ·rintro⟨h1,h2⟩;exact⟨⟨h1,fun j hj=>h2 j (by omega)⟩,by simp[h2 r (by omega)]⟩
theorem ok_snd {c:Nat→Int} (hc:Wf c):okTo c 12=csnd c:=by
 rw[Bool.eq_iff_iff,okTo_iff,csnd_iff hc];constructor
 ·rintro⟨h1,h2⟩ j hj;have p:=(snd_iff _).1 h1 j hj;have q:=(over_iff hc j).1 (h2 j hj);refine⟨p,?_,q⟩;have p':=(fit_bits (hc (12+j)).1).1 p;refine(fit_bits (hc j).1).2 fun t ht=>?_;cases e:(c j).toNat.testBit t
  ·rfl
  ·have:=q t e;unfold bitAt at this;rw[p' t ht] at this;cases this
 ·intro H;exact⟨(snd_iff _).2 fun j hj=>(H j hj).1,fun j hj=>(over_iff hc j).2 (H j hj).2.2⟩
theorem rtext_any (c:Nat→Int) (hc:Wf c) (w:World):Calls Tryz.prog 57 #[.agg (cc c)] w fun e w'=>e= .returned (.tuple #[.string ⟨(textTo c 12).toArray⟩,.bool (csnd c)])∧Below w.heap.size w w':=by
 have:=rtext_of c hc w;rwa [ok_snd hc] at this
set_option maxHeartbeats 400000 in
theorem rcube_any (c:Nat→Int) (hc:Wf c) (w:World):Calls Tryz.prog 50 #[.agg (cc c)] w fun e w'=>e= .returned (.bool (csnd c))∧Below w.heap.size w w':=by
 have HT:=qH fun W=>rtext_any c hc W;have R0:=qH (Blk.new w (cc c) 37);clear hc;(go_enter Tryz.func50,Tryz.ntmps50);(go_wp2_with(refine wpList_load_row rfl 37 _ rfl w.heap.size rfl 37 (cc c) (0,0) _ R0.out Tryz.underlying37 rfl (by kernel_rfl) ?_));refine(HT.out _).mono ?_;rintro e w1 ⟨rfl,hw1⟩;go_wp2;go_ret;exact⟨rfl,(below1 _ _).trans (hw1.mono (by simp))⟩
def offF : Nat → Nat
  | 0 => 0
  | r + 1 => offF r + (sz r).toNat
theorem textTo_off (c:Nat→Int):∀r,(textTo c r).length=offF r
 |0=>rfl
 |r+1=>by rw[textTo,List.length_append,fieldT_len,textTo_off c r,offF]
theorem wholeTo_off (h:Nat→Int):∀r,(wholeTo h r).length=offF r
 |0=>rfl
 |r+1=>by rw[wholeTo,List.length_append,fieldL_len,wholeTo_off h r,offF]
theorem offF_12:offF 12=248:=by decide
theorem offF_mono:∀{a b:Nat},a≤b→offF a≤offF b:=by
 intro a b h;induction b with
 |zero=>rw[show a=0 by omega];exact Nat.le_refl _
 |succ b ih=>
  by_cases e:a=b+1
  ·rw[e];exact Nat.le_refl _
  ·have:=ih (by omega);rw[offF];omega
theorem place (p:Nat):∀r,p<offF r→∃q k,q<r∧k<(sz q).toNat∧p=offF q+k
 |0,h=>absurd h (by simp[offF])
 |r+1,h=>by
  by_cases hp:p<offF r
  ·obtain⟨q,k,h1,h2,h3⟩:=place p r hp;exact⟨q,k,by omega,h2,h3⟩
  ·exact⟨r,p - offF r,by omega,by rw[offF] at h;omega,by omega⟩
theorem place_one {q q' k k':Nat} (h:k<(sz q).toNat) (h':k'<(sz q').toNat) (e:offF q+k=offF q'+k'):q=q'∧k=k':=by
 rcases Nat.lt_trichotomy q q' with hl|rfl|hl
 ·have:=offF_mono (show q+1≤q' by omega);rw[offF] at this;omega
 ·exact⟨rfl,by omega⟩
 ·have:=offF_mono (show q'+1≤q by omega);rw[offF] at this;omega
def letT (c : Nat → Int) (r k : Nat) : UInt8 := chT ((c r).toNat.testBit ((sz r).toNat - 1 - k)) ((c (12 + r)).toNat.testBit ((sz r).toNat - 1 - k))
theorem textTo_at (c:Nat→Int) {q k:Nat} (hk:k<(sz q).toNat):∀r,q<r→(textTo c r)[offF q+k]? =some (letT c q k)
 |0,h=>absurd h (by omega)
 |r+1,h=>by
  rw[textTo];by_cases e:q=r
  ·subst e;rw[List.getElem?_append_right (by rw[textTo_off];omega),textTo_off,show offF q+k - offF q=k by omega,fieldT_at _ _ _ _ hk];rfl
  ·have:=offF_mono (show q+1≤r by omega);rw[offF] at this;rw[List.getElem?_append_left (by rw[textTo_off];omega)];exact textTo_at c hk r (by omega)
def letL (h : Nat → Int) (r k : Nat) : UInt8 := chB ((h r).toNat.testBit ((sz r).toNat - 1 - k))
theorem wholeTo_at (h:Nat→Int) {q k:Nat} (hk:k<(sz q).toNat):∀r,q<r→(wholeTo h r)[offF q+k]? =some (letL h q k)
 |0,h'=>absurd h' (by omega)
 |r+1,h'=>by
  rw[wholeTo];by_cases e:q=r
  ·subst e;rw[List.getElem?_append_right (by rw[wholeTo_off];omega),wholeTo_off,show offF q+k - offF q=k by omega,fieldL_at _ _ _ hk];rfl
  ·have:=offF_mono (show q+1≤r by omega);rw[offF] at this;rw[List.getElem?_append_left (by rw[wholeTo_off];omega)];exact wholeTo_at h hk r (by omega)
theorem text_ext {X:List UInt8} {c:Nat→Int} (hl:X.length=248) (h:∀q k,q<12→k<(sz q).toNat→X[offF q+k]? =some (letT c q k)):X=textTo c 12:=by
 apply List.ext_getElem?;intro p;by_cases hp:p<248
 ·obtain⟨q,k,h1,h2,rfl⟩:=place p 12 (by rw[offF_12];exact hp);rw[h q k h1 h2,textTo_at c h2 12 h1]
 ·rw[List.getElem?_eq_none (by omega),List.getElem?_eq_none (by rw[textTo_off,offF_12];omega)]
theorem text_len (c:Nat→Int):(textTo c 12).length=248:=by rw[textTo_off,offF_12]
theorem whole_len (h:Nat→Int):(wholeTo h 12).length=248:=by rw[wholeTo_off,offF_12]
theorem text_set {c c':Nat→Int} {r k:Nat} (hr:r<12) (hk:k<(sz r).toNat) (ch:UInt8) (h1:letT c' r k=ch) (h2:∀q j,q<12→j<(sz q).toNat→¬(q=r∧j=k)→letT c' q j=letT c q j):(textTo c 12).set (offF r+k) ch=textTo c' 12:=by
 refine text_ext (by rw[List.length_set,text_len]) fun q j hq hj=>?_;rw[List.getElem?_set];by_cases e:offF r+k=offF q+j
 ·obtain⟨rfl,rfl⟩:=place_one hk hj e;have hb:offF r+k<(textTo c 12).length:=(by have:=offF_mono (show r+1≤12 by omega);rw[offF] at this;rw[textTo_off];omega);rw[if_pos rfl,if_pos hb,h1]
 ·rw[if_neg e,textTo_at c hj 12 hq,h2 q j hq hj fun h=>e (by rw[h.1,h.2])]
theorem idxText {X:List UInt8} {p:Nat} {ch:UInt8} (h:X[p]? =some ch) (w:World):(Instr.index 9 (.string ⟨X.toArray⟩) (.int .i64 p)).run Tryz.prog w= .ok (.int .u8 (ch.toNat:Int)) w:=by
 have hp:p<X.length:=(List.getElem?_eq_some_iff.1 h).1;have he:X[p]=ch:=(List.getElem?_eq_some_iff.1 h).2;have hs:(⟨X.toArray⟩:ByteArray).size=X.length:=(by show X.toArray.size=X.length;simp);have hg:(⟨X.toArray⟩:ByteArray)[p]'(by rw[hs];exact hp)=ch:=(by show X.toArray[p]'(by simpa using hp)=ch;simpa using he);go_simp
theorem cell_setCell_ne {W:World} {g i j:Nat} (v:Value) (h:i≠j):(W.setCell ⟨g,i,none⟩ v).cell? ⟨g,j,none⟩=W.cell? ⟨g,j,none⟩:=by
 simp only[World.setCell,World.cell?];cases hb:W.heap[g]? with
 |none=>simp[Array.getElem?_modify,hb]
 |some o=>cases o<;>simp[Array.getElem?_modify,hb,h]
def topB (x : Int) (n k : Nat) : Int := x / 2 ^ (n - k)
theorem topB_zero {x:Int} {n:Nat} (h0:0≤x) (h:x.toNat<2 ^ n):topB x n 0=0:=by
 unfold topB;rw[Nat.sub_zero];obtain⟨m,rfl⟩:=Int.eq_ofNat_of_zero_le h0;exact Int.ediv_eq_zero_of_lt (by omega) (by exact_mod_cast h)
theorem topB_all (x:Int) (n:Nat):topB x n n=x:=by unfold topB;simp
theorem topB_step {x:Int} (h0:0≤x) (n k:Nat) (hk:k<n):topB x n (k+1)=topB x n k*2+(if x.toNat.testBit (n - 1 - k) then 1 else 0):=by
 obtain⟨m,rfl⟩:=Int.eq_ofNat_of_zero_le h0;unfold topB;rw[Int.toNat_natCast,show n - (k+1)=n - 1 - k by omega,show n - k=n - 1 - k+1 by omega];generalize n - 1 - k=t;have e1:(2:Int) ^ t=((2 ^ t:Nat):Int):=(by push_cast;rfl);have e2:(2:Int) ^ (t+1)=((2 ^ (t+1):Nat):Int):=(by push_cast;rfl);rw[e1,e2,←Int.natCast_ediv,←Int.natCast_ediv,Nat.testBit_eq_decide_div_mod_eq,Nat.pow_succ,←Nat.div_div_eq_div_mul];generalize m / 2 ^ t=q;by_cases h:q % 2=1
 ·rw[decide_eq_true h,if_pos rfl];omega
 ·rw[decide_eq_false h,if_neg (by decide)];omega
theorem topB_small {x:Int} (h0:0≤x) (n k:Nat) (h:x.toNat<2 ^ n) (hn:n≤48):0≤topB x n k∧topB x n k<281474976710656:=by
 obtain⟨m,rfl⟩:=Int.eq_ofNat_of_zero_le h0;unfold topB;have e1:(2:Int) ^ (n - k)=((2 ^ (n - k):Nat):Int):=(by push_cast;rfl);rw[Int.toNat_natCast] at h;have h48:m<281474976710656:=Nat.lt_of_lt_of_le h (by have:=Nat.pow_le_pow_right (show 0<2 by decide) hn;simpa using this);rw[e1,←Int.natCast_ediv];have:=Nat.div_le_self m (2 ^ (n - k));generalize m / 2 ^ (n - k)=q at*;omega
def fld (j : Nat) : Nat := if j < 12 then j else j - 12
theorem fld_val {r:Nat} (h:r<12):fld r=r:=if_pos h
theorem fld_care (r:Nat):fld (12+r)=r:=by unfold fld;rw[if_neg (by omega)];omega
theorem fld_cases {j:Nat} (hj:j<24):fld j<12∧(j=fld j∨j=12+fld j):=by unfold fld;split<;>omega
def fromTo (c : Nat → Int) (r k : Nat) : Nat → Int := fun j => if fld j < r then c j else if fld j = r then topB (c j) (sz r).toNat k else 0
theorem fromTo_val (c:Nat→Int) {r:Nat} (k:Nat) (hr:r<12):fromTo c r k r=topB (c r) (sz r).toNat k:=by
 unfold fromTo;rw[fld_val hr,if_neg (by omega),if_pos rfl]
theorem fromTo_care (c:Nat→Int) (r k:Nat):fromTo c r k (12+r)=topB (c (12+r)) (sz r).toNat k:=by
 unfold fromTo;rw[fld_care,if_neg (by omega),if_pos rfl]
theorem fromTo_step (c:Nat→Int) {r k:Nat} (hr:r<12) {tv tc:Int} (hv:topB (c r) (sz r).toNat (k+1)=tv) (hc:topB (c (12+r)) (sz r).toNat (k+1)=tc):upd (upd (fromTo c r k) (12+r) tc) r tv=fromTo c r (k+1):=by
 funext j;unfold upd;by_cases e1:j=r
 ·subst e1;rw[if_pos rfl,fromTo_val c (k+1) hr,hv]
 ·rw[if_neg e1];by_cases e2:j=12+r
  ·subst e2;rw[if_pos rfl,fromTo_care c r (k+1),hc]
  ·rw[if_neg e2];unfold fromTo;have:fld j≠r:=(by unfold fld;split<;>omega);rw[if_neg this,if_neg this]
def Fit24 (c : Nat → Int) : Prop := ∀ j, j < 12 → fitB j (c j) = true ∧ fitB j (c (12 + j)) = true
theorem fromTo_next (c:Nat→Int) (hc:Wf c) (hf:Fit24 c) (r:Nat):cc (fromTo c r (sz r).toNat)=cc (fromTo c (r+1) 0):=by
 refine cc_ext (cc_size _) fun j hj=>?_;rw[cc_at _ j hj];unfold fromTo;obtain⟨q12,qj⟩:=fld_cases hj;generalize fld j=q at*;by_cases h1:q<r
 ·rw[if_pos h1,if_pos (by omega)]
 ·by_cases h2:q=r
  ·rw[if_neg h1,if_pos h2,if_pos (by omega),topB_all]
  ·rw[if_neg h1,if_neg h2,if_neg (by omega)];by_cases h3:q=r+1
   ·rw[if_pos h3,topB_zero (hc j).1];have:=hf q q12;rw[fit_nat q _ (hc q).1,fit_nat q _ (hc (12+q)).1] at this;rw[←h3];rcases qj with e|e
    ·rw[e];exact this.1
    ·rw[e];exact this.2
   ·rw[if_neg h3]
theorem fromTo_start (c:Nat→Int) (hc:Wf c) (hf:Fit24 c):cc (fromTo c 0 0)=cc zh:=by
 refine cc_ext (cc_size _) fun j hj=>?_;rw[cc_at _ j hj];unfold fromTo zh;obtain⟨_,qj⟩:=fld_cases hj;generalize fld j=q at*;rw[if_neg (by omega)];by_cases h3:q=0
 ·rw[if_pos h3,topB_zero (hc j).1];have:=hf 0 (by omega);rw[fit_nat 0 _ (hc 0).1,fit_nat 0 _ (hc (12+0)).1] at this;subst h3;rcases qj with e|e
  ·rw[e];exact this.1
  ·rw[e];exact this.2
 ·rw[if_neg h3]
theorem fromTo_end (c:Nat→Int):cc (fromTo c 12 0)=cc c:=by
 refine cc_ext (cc_size _) fun j hj=>?_;rw[cc_at _ j hj];unfold fromTo;rw[if_pos (fld_cases hj).1]
def FromS (w : World) (f : Nat → Int) (W : World) : Prop := Blk w.heap.size #[Value.int IntKind.u64 0, Value.int IntKind.u64 0, Value.int IntKind.u64 0, Value.int IntKind.u64 0, Value.int IntKind.u64 0, Value.int IntKind.u64 0, Value.int IntKind.u64 0, Value.int IntKind.u64 0, Value.int IntKind.u64 0, Value.int IntKind.u64 0, Value.int IntKind.u64 0, Value.int IntKind.u64 0, Value.int IntKind.u64 0, Value.int IntKind.u64 0, Value.int IntKind.u64 0, Value.int IntKind.u64 0, Value.int IntKind.u64 0, Value.int IntKind.u64 0, Value.int IntKind.u64 0, Value.int IntKind.u64 0, Value.int IntKind.u64 0, Value.int IntKind.u64 0, Value.int IntKind.u64 0, Value.int IntKind.u64 0] 37 W ∧ Blk (w.heap.size + 1) (cc f) 37 W ∧ Below w.heap.size w W
theorem FromS.below {w:World} {f:Nat→Int} {W W':World} (hb:Below W.heap.size W W') (h:FromS w f W):FromS w f W':=⟨h.1.below hb,h.2.1.below hb,h.2.2.trans (hb.mono h.2.2.size)⟩
theorem FromS.set {w:World} {f:Nat→Int} {W:World} (h:FromS w f W) {k:Nat} (hk:k<24) (x:Int):FromS w (upd f k x) (W.setCell ⟨w.heap.size+1,k,none⟩ (.int .u64 x)):=⟨h.1.cother (by omega) _,h.2.1.cset hk x,h.2.2.setCell (by show w.heap.size≤w.heap.size+1;omega) _⟩
theorem upd_twice (f:Nat→Int) (k:Nat) (x y:Int):upd (upd f k x) k y=upd f k y:=by funext j;unfold upd;split<;>rfl
theorem upd_swap (f:Nat→Int) {i k:Nat} (h:i≠k) (x y:Int):upd (upd f i x) k y=upd (upd f k y) i x:=by
 funext j;unfold upd;by_cases e1:j=k
 ·subst e1;rw[if_pos rfl,if_neg (Ne.symm h),if_pos rfl]
 ·rw[if_neg e1];by_cases e2:j=i
  ·rw[if_pos e2,if_pos e2]
  ·rw[if_neg e2,if_neg e2,if_neg e1]
set_option maxHeartbeats 2000000 in
theorem rfrom_text (c:Nat→Int) (hc:Wf c) (hf:Fit24 c) (hvc:∀j,j<12→∀t,bitAt c j t=true→bitAt c (12+j) t=true) (w:World):Calls Tryz.prog 58 #[.string ⟨(textTo c 12).toArray⟩] w fun e w'=>e= .returned (.agg (cc c))∧Below w.heap.size w w':=by
 have S0:=qH (show FromS w (fromTo c 0 0) ((w.alloc (.cells #[.int .u64 0,.int .u64 0,.int .u64 0,.int .u64 0,.int .u64 0,.int .u64 0,.int .u64 0,.int .u64 0,.int .u64 0,.int .u64 0,.int .u64 0,.int .u64 0,.int .u64 0,.int .u64 0,.int .u64 0,.int .u64 0,.int .u64 0,.int .u64 0,.int .u64 0,.int .u64 0,.int .u64 0,.int .u64 0,.int .u64 0,.int .u64 0] 37)).alloc (.cells #[.int .u64 0,.int .u64 0,.int .u64 0,.int .u64 0,.int .u64 0,.int .u64 0,.int .u64 0,.int .u64 0,.int .u64 0,.int .u64 0,.int .u64 0,.int .u64 0,.int .u64 0,.int .u64 0,.int .u64 0,.int .u64 0,.int .u64 0,.int .u64 0,.int .u64 0,.int .u64 0,.int .u64 0,.int .u64 0,.int .u64 0,.int .u64 0] 37)) from⟨(Blk.new w #[.int .u64 0,.int .u64 0,.int .u64 0,.int .u64 0,.int .u64 0,.int .u64 0,.int .u64 0,.int .u64 0,.int .u64 0,.int .u64 0,.int .u64 0,.int .u64 0,.int .u64 0,.int .u64 0,.int .u64 0,.int .u64 0,.int .u64 0,.int .u64 0,.int .u64 0,.int .u64 0,.int .u64 0,.int .u64 0,.int .u64 0,.int .u64 0] 37).old _,by rw[fromTo_start c hc hf];exact Blk.new2 w _ _ _,below2 _ _ _⟩);have HC:=qH hc;have HF:=qH hf;have HV:=qH hvc;have HT:=qH fun q k (hq:q<12) (hk:k<(sz q).toNat)=>textTo_at c hk 12 hq;have HL:=qH (text_len c);have HE:=qH (fromTo_end c);clear hc hf hvc;generalize textTo c 12=X at*;(go_enter Tryz.func58,Tryz.ntmps58);go_wp2;go_loopg [5,4] 12 (fun g i at_ wr=>∃r:Nat,r+g=12∧i= .int .i64 r∧at_= .int .i64 (offF r)∧FromS w (fromTo c r 0) wr)
 case atStart=>exact⟨0,by omega,rfl,rfl,S0.out⟩
 case round=>
  clear S0;obtain⟨r,hr,rfl,rfl,hS⟩:=hrel;have HS:=qH hS;clear hS;by_cases hlt:r<12
  ·have hrI:(r:Int)<12:=(by omega);have hdI:decide ((r:Int)<12)=true:=decide_eq_true hrI;obtain⟨s0,s1⟩:=sz_le r;obtain⟨n,hn⟩:∃n:Nat,sz r=n:=⟨(sz r).toNat,by omega⟩;have hnn:(sz r).toNat=n:=(by omega);have HSZ:=qH fun W=>rsize_in r W hlt;rw[hn] at HSZ;have HNN:=qH hnn;have hn48:n≤48:=(by omega);have HNX:=qH (fromTo_next c HC.out HF.out r);rw[hnn] at HNX;have HOF:=qH (show offF (r+1)=offF r+n by rw[offF,hnn]);clear s0 s1 hnn hn;(go_wp2_with fail);go_loopg [6,4] n (fun g k at_ wr=>∃q p:Nat,q+g=n∧k= .int .i64 q∧at_= .int .i64 p∧p=offF r+q∧FromS w (fromTo c r q) wr)
   case atStart=>exact⟨0,offF r,by omega,rfl,rfl,rfl,HS.out⟩
   case round=>
    clear HS hdI;obtain⟨q,p,hq,rfl,rfl,hp,hS⟩:=hrel;have HS:=qH hS;have HP:=qH hp;clear hS hp;(go_wp2_with fail);refine(HSZ.out _).mono ?_;rintro e w1 ⟨rfl,hw1⟩;have HS1:=qH (FromS.below hw1 HS.out);clear hw1 HS;by_cases hqn:q<n
    ·have hdQ:decide ((q:Int)<(n:Int))=true:=decide_eq_true (by omega);have fb:=HF.out r hlt;rw[fit_nat r _ (HC.out r).1,fit_nat r _ (HC.out (12+r)).1,HNN.out] at fb;have bv:=topB_small (HC.out r).1 n q fb.1 hn48;have bc:=topB_small (HC.out (12+r)).1 n q fb.2 hn48;have sv:=topB_step (HC.out r).1 n q hqn;have sc:=topB_step (HC.out (12+r)).1 n q hqn;have k1:=(cellC HS1.out.2.1 (show r<24 by omega)).trans (by rw[fromTo_val c q hlt,HNN.out]);have HFS:=qH fun(tv tc:Int) (e1:topB (c r) n (q+1)=tv) (e2:topB (c (12+r)) n (q+1)=tc)=>fromTo_step c (k:=q) hlt (tv:=tv) (tc:=tc) (by rw[HNN.out];exact e1) (by rw[HNN.out];exact e2);have f1:=frozen_of_row _ (w.heap.size+1) r _ _ HS1.out.2.1;have hkc:=(cellC HS1.out.2.1 (show 12+r<24 by omega)).trans (by rw[fromTo_care c r q,HNN.out]);have hch:=HT.out r q hlt (by rw[HNN.out];exact hqn);rw[←HP.out] at hch;unfold letT at hch;rw[HNN.out] at hch;have hvb:=HV.out r hlt (n - 1 - q);unfold bitAt at hvb;clear fb;generalize topB (c r) n q=tv at*;generalize topB (c (12+r)) n q=tc at*;have S2:=qH ((HS1.out.set (show r<24 by omega) (tv*2)).set (show 12+r<24 by omega) (tc*2));have k2:(w1.setCell ⟨w.heap.size+1,r,none⟩ (.int .u64 (tv*2))).cell? ⟨w.heap.size+1,12+r,none⟩=some (.int .u64 tc):=(cell_setCell_ne _ (by omega)).trans hkc;have f2:=frozen_of_row _ (w.heap.size+1) (12+r) _ _ (HS1.out.set (show r<24 by omega) (tv*2)).2.1;clear hkc;have hp248:(p:Int)<248:=(by have h1:=offF_mono (show r+1≤12 by omega);rw[HOF.out,offF_12] at h1;have:=HP.out;omega);(go_upto_region 11 with(fail));have k3:=(cellC S2.out.2.1 (show 12+r<24 by omega)).trans (by rw[upd_eq]);have f3:=frozen_of_row _ (w.heap.size+1) (12+r) _ _ S2.out.2.1;have S3:=qH (S2.out.set (show 12+r<24 by omega) (tc*2+1));rw[upd_twice] at S3;clear k1 k2 f1 f2 HS1;generalize(w1.setCell ⟨w.heap.size+1,r,none⟩ (.int .u64 (tv*2))).setCell ⟨w.heap.size+1,12+r,none⟩ (.int .u64 (tc*2))=W2 at*;rcases ch_cases ((c r).toNat.testBit (n - 1 - q)) ((c (12+r)).toNat.testBit (n - 1 - q)) with⟨e1,e2⟩|⟨e0,e1,e2⟩|⟨e0,e1,e2⟩
     ·rw[e2] at hch;have hix:=idxText hch;rw[show((120:UInt8).toNat:Int)=120 from rfl] at hix;have e0:(c r).toNat.testBit (n - 1 - q)=false:=by
       cases e:(c r).toNat.testBit (n - 1 - q)
       ·rfl
       ·rw[hvb e] at e1;cases e1
      rw[e0,if_neg (by decide),Int.add_zero] at sv;rw[e1,if_neg (by decide),Int.add_zero] at sc;have HN:=qH (HFS.out _ _ sv sc);clear hch e0 e1 e2 sv sc hvb HFS;go_wp2;have S5:=qH (show FromS w (fromTo c r (q+1)) W2 by rw[←HN.out,←upd_swap _ (show r≠12+r by omega)];exact S2.out);clear k3 f3 hix S2 S3;go_roundg (n - (q+1))
      case measure=>omega
      case rel=>exact⟨q+1,p+1,by omega,by go_num,by go_num,by rw[HP.out];omega,S5.out⟩
     ·rw[e2] at hch;have hix:=idxText hch;rw[show((49:UInt8).toNat:Int)=49 from rfl] at hix;rw[e0,if_pos rfl] at sv;rw[e1,if_pos rfl] at sc;have HN:=qH (HFS.out _ _ sv sc);clear hch e0 e1 e2 sv sc hvb HFS;(go_upto_region 13 with(fail));clear k3 f3;generalize W2.setCell ⟨w.heap.size+1,12+r,none⟩ (.int .u64 (tc*2+1))=W3 at*;have k4:=(cellC S3.out.2.1 (show r<24 by omega)).trans (by rw[upd_ne _ _ (show r≠12+r by omega),upd_eq]);have f4:=frozen_of_row _ (w.heap.size+1) r _ _ S3.out.2.1;have S4:=qH (S3.out.set (show r<24 by omega) (tv*2+1));rw[upd_swap _ (show r≠12+r by omega),upd_twice,HN.out] at S4;go_wp2;clear k4 f4 hix S2 S3;go_roundg (n - (q+1))
      case measure=>omega
      case rel=>exact⟨q+1,p+1,by omega,by go_num,by go_num,by rw[HP.out];omega,S4.out⟩
     ·rw[e2] at hch;have hix:=idxText hch;rw[show((48:UInt8).toNat:Int)=48 from rfl] at hix;rw[e0,if_neg (by decide),Int.add_zero] at sv;rw[e1,if_pos rfl] at sc;have HN:=qH (HFS.out _ _ sv sc);clear hch e0 e1 e2 sv sc hvb HFS;rw[upd_swap _ (show r≠12+r by omega),HN.out] at S3;go_wp2;clear k3 f3 hix S2;go_roundg (n - (q+1))
      case measure=>omega
      case rel=>exact⟨q+1,p+1,by omega,by go_num,by go_num,by rw[HP.out];omega,S3.out⟩
    ·have hdQ:decide ((q:Int)<(n:Int))=false:=decide_eq_false (by omega);obtain rfl:q=n:=(by omega);have S2:=qH (show FromS w (fromTo c (r+1) 0) w1 from⟨HS1.out.1,by rw[←HNX.out];exact HS1.out.2.1,HS1.out.2.2⟩);(go_wp2_with fail);go_roundg (12 - (r+1))
     case measure=>omega
     case rel=>exact⟨r+1,by omega,by go_num,by rw[HP.out,HOF.out],S2.out⟩
  ·obtain rfl:r=12:=(by omega);(go_wp2_with(first|(refine wpList_load_row rfl 37 _ rfl (w.heap.size+1) rfl 37 (cc (fromTo c 12 0)) (0,0) _ HS.out.2.1 Tryz.underlying37 rfl (by kernel_rfl) ?_)|(refine wpList_store_row rfl 37 _ _ rfl w.heap.size (cc (fromTo c 12 0)) rfl rfl 37 _ HS.out.1 (by kernel_rfl) rfl (cc_one _) ?_)));refine bodyPost_ret (v:= .agg (cc (fromTo c 12 0))) ?_ rfl ⟨by rw[HE.out],below_setRow HS.out.2.2 (by omega) _⟩;exact res_one Tryz.results58 rfl (HS.out.1.rset _) Tryz.underlying37 rfl (by kernel_rfl)
def all2 (p : UInt8 → UInt8 → Bool) (X Y : List UInt8) (r : Nat) : Bool := (List.range r).all fun i => p (X.getD i 0) (Y.getD i 0)
theorem all2_zero (p:UInt8→UInt8→Bool) (X Y:List UInt8):all2 p X Y 0=true:=rfl
theorem all2_succ (p:UInt8→UInt8→Bool) (X Y:List UInt8) (r:Nat):all2 p X Y (r+1)=(all2 p X Y r&&p (X.getD r 0) (Y.getD r 0)):=by
 unfold all2;rw[List.range_succ,List.all_append];simp
theorem getD_at {X:List UInt8} {r:Nat} (h:r<X.length):X[r]? =some (X.getD r 0):=by
 rw[List.getD_eq_getElem?_getD,List.getElem?_eq_getElem h];rfl
def mtch (x y : UInt8) : Bool := x == 120 || x == y
theorem u8_eq (x y:UInt8):((x.toNat:Int)==(y.toNat:Int))=(x==y):=by
 rw[Bool.eq_iff_iff];simp only[beq_iff_eq];constructor
 ·intro h;exact UInt8.toNat_inj.1 (by omega)
 ·intro h;rw[h]
theorem u8_x (x:UInt8):((x.toNat:Int)==120)=(x==120):=by
 have:=u8_eq x 120;rwa [show((120:UInt8).toNat:Int)=120 from rfl] at this
theorem mtch_cases (x y:UInt8):∃i j:Int,i=(x.toNat:Int)∧j=(y.toNat:Int)∧(((i==120)=true∧mtch x y=true)∨((i==120)=false∧(i==j)=true∧mtch x y=true)∨((i==120)=false∧(i==j)=false∧mtch x y=false)):=by
 refine⟨_,_,rfl,rfl,?_⟩;rw[u8_x,u8_eq];unfold mtch;cases x==120<;>cases x==y<;>simp
def HasS (w : World) (c h : Nat → Int) (W : World) : Prop := Blk w.heap.size (cc c) 37 W ∧ Blk (w.heap.size + 1) (hc h) 35 W ∧ Below w.heap.size w W
theorem HasS.below {w:World} {c h:Nat→Int} {W W':World} (hb:Below W.heap.size W W') (s:HasS w c h W):HasS w c h W':=⟨s.1.below hb,s.2.1.below hb,s.2.2.trans (hb.mono s.2.2.size)⟩
set_option maxHeartbeats 2000000 in
theorem rhas_of (c h:Nat→Int) (wc:Wf c) (wh:Wf h) (w:World):Calls Tryz.prog 89 #[.agg (cc c),.agg (hc h)] w fun e w'=>e= .returned (.bool ((csnd c&&all2 mtch (textTo c 12) (wholeTo h 12) 248)&&sndB h))∧Below w.heap.size w w':=by
 have S0:=qH (show HasS w c h ((w.alloc (.cells (cc c) 37)).alloc (.cells (hc h) 35)) from⟨(Blk.new w (cc c) 37).old _,Blk.new2 w _ _ _,below2 _ _ _⟩);have HT:=qH fun W=>rtext_any c wc W;have HW:=qH fun W=>rwhole_any h wh W;have HLX:=qH (text_len c);have HLY:=qH (whole_len h);clear wc wh;generalize textTo c 12=X at*;generalize wholeTo h 12=Y at*;generalize csnd c=k0 at*;(go_enter Tryz.func89,Tryz.ntmps89);(go_wp2_with(refine wpList_load_row rfl 37 _ rfl w.heap.size rfl 37 (cc c) (0,0) _ S0.out.1 Tryz.underlying37 rfl (by kernel_rfl) ?_));refine(HT.out _).mono ?_;rintro e w1 ⟨rfl,hw1⟩;have S1:=qH (HasS.below hw1 S0.out);clear hw1 S0 HT;(go_wp2_with(refine wpList_load_row rfl 35 _ rfl (w.heap.size+1) rfl 35 (hc h) (0,0) _ S1.out.2.1 Tryz.underlying35 rfl (by kernel_rfl) ?_));refine(HW.out _).mono ?_;rintro e w2 ⟨rfl,hw2⟩;have S2:=qH (HasS.below hw2 S1.out);clear hw2 S1 HW;(go_wp2_with fail);go_loopg [8,6] 248 (fun g i ok wr=>∃r:Nat,r+g=248∧i= .int .i64 r∧ok= .bool (k0&&all2 mtch X Y r)∧HasS w c h wr)
 case atStart=>exact⟨0,by omega,rfl,by rw[all2_zero,Bool.and_true],S2.out⟩
 case round=>
  clear S2;obtain⟨r,hr,rfl,rfl,hS⟩:=hrel;have HS:=qH hS;clear hS;by_cases hlt:r<248
  ·have hdI:decide ((r:Int)<((X.length:Nat):Int))=true:=decide_eq_true (by have:=HLX.out;omega);have hdN:decide (r<X.length)=true:=decide_eq_true (by have:=HLX.out;omega);have ix:=idxText (getD_at (X:=X) (r:=r) (by have:=HLX.out;omega));have iy:=idxText (getD_at (X:=Y) (r:=r) (by have:=HLY.out;omega));have HA:=qH (all2_succ mtch X Y r);obtain⟨a,b,ea,eb,hcs⟩:=mtch_cases (X.getD r 0) (Y.getD r 0);rw[←ea] at ix;rw[←eb] at iy;clear ea eb;have hlen:r<X.length:=(by have:=HLX.out;omega);cases hk:(k0&&all2 mtch X Y r)
   ·have HK:=qH (show(k0&&all2 mtch X Y (r+1))=false by rw[HA.out,←Bool.and_assoc,hk];rfl);clear hk hcs;(go_wp2_with fail);(go_quiet (fail));have S3:=qH (HasS.below (belowDrewN wr nq) HS.out);(go_wp2_with fail);go_roundg (248 - (r+1))
    case measure=>omega
    case rel=>exact⟨r+1,by omega,by go_num,by rw[HK.out],S3.out⟩
   ·rcases hcs with⟨t1,hm⟩|⟨t1,t2,hm⟩|⟨t1,t2,hm⟩;all_goals
     have hkk:(k0&&all2 mtch X Y (r+1))=mtch (X.getD r 0) (Y.getD r 0):=(by rw[HA.out,←Bool.and_assoc,hk,Bool.true_and]);rw[hm] at hkk;have HK:=qH hkk;clear hk hm hkk;(go_wp2_with fail);(go_quiet (fail));have S3:=qH (HasS.below (belowDrewN wr nq) HS.out);(go_wp2_with fail);go_roundg (248 - (r+1))
     case measure=>omega
     case rel=>exact⟨r+1,by omega,by go_num,by rw[HK.out],S3.out⟩
  ·obtain rfl:r=248:=(by omega);have hdI:decide ((248:Int)<((X.length:Nat):Int))=false:=decide_eq_false (by have:=HLX.out;omega);have hlen:¬248<X.length:=(by have:=HLX.out;omega);cases hk:(k0&&all2 mtch X Y 248)
   ·go_wp2;go_ret;exact⟨ret_bool (by rw[hk];rfl),HS.out.2.2⟩
   ·(go_wp2_with(refine loadRowG rfl 35 _ rfl (w.heap.size+1) rfl 35 (hc h) (0,0) HS.out.2.1 Tryz.underlying35 rfl (by kernel_rfl) ?_));refine(rhead_any h _).mono ?_;rintro e w3 ⟨rfl,hw3⟩;go_wp2;go_ret;exact⟨ret_bool (by rw[hk];rfl),(HasS.below hw3 HS.out).2.2⟩
def WinS (w : World) (a b : Nat → Int) (W : World) : Prop := Blk w.heap.size (cc a) 37 W ∧ Blk (w.heap.size + 1) (cc b) 37 W ∧ Below w.heap.size w W
theorem WinS.below {w:World} {a b:Nat→Int} {W W':World} (hb:Below W.heap.size W W') (s:WinS w a b W):WinS w a b W':=⟨s.1.below hb,s.2.1.below hb,s.2.2.trans (hb.mono s.2.2.size)⟩
def htcm (x y : UInt8) : Bool := y == 120 || x == y
theorem htcm_cases (x y:UInt8):∃i j:Int,i=(x.toNat:Int)∧j=(y.toNat:Int)∧(((j==120)=true∧htcm x y=true)∨((j==120)=false∧(i==j)=true∧htcm x y=true)∨((j==120)=false∧(i==j)=false∧htcm x y=false)):=by
 refine⟨_,_,rfl,rfl,?_⟩;rw[u8_x,u8_eq];unfold htcm;cases y==120<;>cases x==y<;>simp
set_option maxHeartbeats 2000000 in
theorem rwithin_of (a b:Nat→Int) (wa:Wf a) (wb:Wf b) (w:World):Calls Tryz.prog 86 #[.agg (cc a),.agg (cc b)] w fun e w'=>e= .returned (.bool ((csnd a&&all2 htcm (textTo a 12) (textTo b 12) 248)&&csnd b))∧Below w.heap.size w w':=by
 have S0:=qH (show WinS w a b ((w.alloc (.cells (cc a) 37)).alloc (.cells (cc b) 37)) from⟨(Blk.new w (cc a) 37).old _,Blk.new2 w _ _ _,below2 _ _ _⟩);have HT:=qH fun W=>rtext_any a wa W;have HW:=qH fun W=>rtext_any b wb W;have HLX:=qH (text_len a);have HLY:=qH (text_len b);clear wa wb;generalize textTo a 12=X at*;generalize textTo b 12=Y at*;generalize csnd a=k0 at*;generalize csnd b=k1 at*;(go_enter Tryz.func86,Tryz.ntmps86);(go_wp2_with(refine wpList_load_row rfl 37 _ rfl w.heap.size rfl 37 (cc a) (0,0) _ S0.out.1 Tryz.underlying37 rfl (by kernel_rfl) ?_));refine(HT.out _).mono ?_;rintro e w1 ⟨rfl,hw1⟩;have S1:=qH (WinS.below hw1 S0.out);clear hw1 S0 HT;(go_wp2_with(refine wpList_load_row rfl 37 _ rfl (w.heap.size+1) rfl 37 (cc b) (0,0) _ S1.out.2.1 Tryz.underlying37 rfl (by kernel_rfl) ?_));refine(HW.out _).mono ?_;rintro e w2 ⟨rfl,hw2⟩;have S2:=qH (WinS.below hw2 S1.out);clear hw2 S1 HW;(go_wp2_with fail);go_loopg [9,6] 248 (fun g i ok wr=>∃r:Nat,r+g=248∧i= .int .i64 r∧ok= .bool (k0&&all2 htcm X Y r)∧WinS w a b wr)
 case atStart=>exact⟨0,by omega,rfl,by rw[all2_zero,Bool.and_true],S2.out⟩
 case round=>
  clear S2;obtain⟨r,hr,rfl,rfl,hS⟩:=hrel;have HS:=qH hS;clear hS;by_cases hlt:r<248
  ·have hdI:decide ((r:Int)<((X.length:Nat):Int))=true:=decide_eq_true (by have:=HLX.out;omega);have hdN:decide (r<X.length)=true:=decide_eq_true (by have:=HLX.out;omega);have ix:=idxText (getD_at (X:=X) (r:=r) (by have:=HLX.out;omega));have iy:=idxText (getD_at (X:=Y) (r:=r) (by have:=HLY.out;omega));have HA:=qH (all2_succ htcm X Y r);obtain⟨na,nb,ea,eb,hcs⟩:=htcm_cases (X.getD r 0) (Y.getD r 0);rw[←ea] at ix;rw[←eb] at iy;clear ea eb;have hlen:r<X.length:=(by have:=HLX.out;omega);cases hk:(k0&&all2 htcm X Y r)
   ·have HK:=qH (show(k0&&all2 htcm X Y (r+1))=false by rw[HA.out,←Bool.and_assoc,hk];rfl);clear hk hcs;(go_wp2_with fail);(go_quiet (fail));have S3:=qH (WinS.below (belowDrewN wr nq) HS.out);(go_wp2_with fail);go_roundg (248 - (r+1))
    case measure=>omega
    case rel=>exact⟨r+1,by omega,by go_num,by rw[HK.out],S3.out⟩
   ·rcases hcs with⟨t1,hm⟩|⟨t1,t2,hm⟩|⟨t1,t2,hm⟩;all_goals
     have hkk:(k0&&all2 htcm X Y (r+1))=htcm (X.getD r 0) (Y.getD r 0):=(by rw[HA.out,←Bool.and_assoc,hk,Bool.true_and]);rw[hm] at hkk;have HK:=qH hkk;clear hk hm hkk;(go_wp2_with fail);(go_quiet (fail));have S3:=qH (WinS.below (belowDrewN wr nq) HS.out);(go_wp2_with fail);go_roundg (248 - (r+1))
     case measure=>omega
     case rel=>exact⟨r+1,by omega,by go_num,by rw[HK.out],S3.out⟩
  ·obtain rfl:r=248:=(by omega);have hdI:decide ((248:Int)<((X.length:Nat):Int))=false:=decide_eq_false (by have:=HLX.out;omega);have hlen:¬248<X.length:=(by have:=HLX.out;omega);cases hk:(k0&&all2 htcm X Y 248);all_goals go_wp2;go_ret;exact⟨ret_bool (by rw[hk];rfl),HS.out.2.2⟩
def BufAt (g : Nat) (X : List UInt8) (W : World) : Prop := ∃ cs : Array Value, W.heap[g]? = some (.cells cs 5 (cs.size, cs.size + 1)) ∧ X.length ≤ cs.size ∧ ∀ (j : Nat) (c : UInt8), X[j]? = some c → cs[j]? = some (Value.int .u8 (c.toNat : Int))
section
variable {g : Nat} {X : List UInt8} {W W' : World}
theorem BufAt.lt (h:BufAt g X W):g<W.heap.size:=by obtain⟨cs,h1,_⟩:=h;exact(Array.getElem?_eq_some_iff.1 h1).1
theorem BufAt.below (h:BufAt g X W) (hb:Below W.heap.size W W'):BufAt g X W':=by
 have hl:=h.lt;obtain⟨cs,h1,h2⟩:=h;exact⟨cs,(hb.block g hl).trans h1,h2⟩
theorem BufAt.cell (h:BufAt g X W) {j:Nat} {c:UInt8} (hj:X[j]? =some c):W.cell? ⟨g,j,none⟩=some (.int .u8 (c.toNat:Int)):=by
 obtain⟨cs,h1,_,h3⟩:=h;rw[cell_of_row W g j cs _ _ h1,h3 j c hj]
theorem BufAt.frozen (h:BufAt g X W) {j:Nat} (hj:j<X.length):W.frozen? ⟨g,j,none⟩=false:=by
 obtain⟨cs,h1,h2,_⟩:=h;simp only[World.frozen?,h1];simp;omega
theorem BufAt.set (h:BufAt g X W) (j:Nat) (c:UInt8):BufAt g (X.set j c) (W.setCell ⟨g,j,none⟩ (.int .u8 (c.toNat:Int))):=by
 obtain⟨cs,h1,h2,h3⟩:=h;refine⟨cs.setIfInBounds j (.int .u8 (c.toNat:Int)),?_,by rw[List.length_set,Array.size_setIfInBounds];exact h2,fun i d hi=>?_⟩
 ·rw[Array.size_setIfInBounds];simp only[World.setCell,Array.getElem?_modify,h1];simp
 ·rw[List.getElem?_set] at hi;rw[Array.getElem?_setIfInBounds];by_cases e:j=i
  ·subst e;rw[if_pos rfl] at hi;by_cases hl:j<X.length
   ·rw[if_pos hl] at hi;injection hi with hi;subst hi;rw[if_pos rfl,if_pos (by omega)]
   ·rw[if_neg hl] at hi;cases hi
  ·rw[if_neg e] at hi ⊢;exact h3 i d hi
end
theorem toBytes (X:List UInt8) (W:World):∃(cap:Nat) (W':World),(convert 9 113 (.string ⟨X.toArray⟩)).run Tryz.prog W= .ok (.slice (some ⟨W.heap.size,0,none⟩) X.length cap) W'∧BufAt W.heap.size X W'∧Below W.heap.size W W':=by
 have hs:(⟨X.toArray⟩:ByteArray).size=X.length:=(by show X.toArray.size=X.length;simp);refine⟨_,_,(Lib.run_convert_string_bytes W 9 113 5 ⟨X.toArray⟩ Tryz.underlying9 Tryz.underlying113 Tryz.underlying5).trans (by rw[hs]),?_,?_⟩
 ·refine⟨_,Lib.bytesWorld_at_new W _ _,?_,fun j c hj=>?_⟩
  ·unfold Lib.bytesCells;rw[Array.size_append,Array.size_map];show X.length≤X.toArray.size+_;simp
  ·have hl:j<X.length:=(List.getElem?_eq_some_iff.1 hj).1;unfold Lib.bytesCells;rw[Array.getElem?_append_left (by rw[Array.size_map];show j<X.toArray.size;simpa using hl),Array.getElem?_map];show Option.map _ X.toArray[j]? =_;rw[List.getElem?_toArray,hj];rfl
 ·refine⟨?_,?_,?_,by rw[Lib.bytesWorld_size];omega,fun k hk=>Lib.bytesWorld_at_old W _ _ k hk⟩<;>rfl
theorem conv_buf {g cap n:Nat} {X:List UInt8} {W:World} (h:BufAt g X W) (hn:n=X.length):(convert 113 9 (.slice (some ⟨g,0,none⟩) n cap)).run Tryz.prog W= .ok (.string ⟨X.toArray⟩) W:=by
 subst hn;refine run_convert_bytes_back W 113 9 5 ⟨g,0,none⟩ cap X Tryz.underlying113 Tryz.underlying5 Tryz.underlying9 fun j hj=>?_;rw[Addr.add_mid,Nat.zero_add];exact h.cell (List.getElem?_eq_getElem hj)
def mrg (x y : UInt8) : UInt8 := if x == 120 then y else x
def cmpt (x y : UInt8) : Bool := x == 120 || y == 120 || x == y
def mergeTo (X Y : List UInt8) (r : Nat) : List UInt8 := (List.range X.length).map fun i => if i < r then mrg (X.getD i 0) (Y.getD i 0) else X.getD i 0
theorem mergeTo_len (X Y:List UInt8) (r:Nat):(mergeTo X Y r).length=X.length:=by simp[mergeTo]
theorem mergeTo_at (X Y:List UInt8) (r i:Nat) (h:i<X.length):(mergeTo X Y r)[i]? =some (if i<r then mrg (X.getD i 0) (Y.getD i 0) else X.getD i 0):=by simp[mergeTo,h]
theorem mergeTo_zero (X Y:List UInt8):mergeTo X Y 0=X:=by
 apply List.ext_getElem?;intro i;by_cases h:i<X.length
 ·rw[mergeTo_at X Y 0 i h,if_neg (by omega),getD_at h]
 ·rw[List.getElem?_eq_none (by rw[mergeTo_len];omega),List.getElem?_eq_none (by omega)]
theorem mergeTo_set (X Y:List UInt8) (r:Nat) (hx:(X.getD r 0==120)=true):(mergeTo X Y r).set r (Y.getD r 0)=mergeTo X Y (r+1):=by
 apply List.ext_getElem?;intro i;rw[List.getElem?_set];by_cases h:i<X.length
 ·rw[mergeTo_at X Y (r+1) i h];by_cases e:r=i
  ·subst e;rw[if_pos rfl,if_pos (by rw[mergeTo_len];exact h),if_pos (by omega),mrg,hx];rfl
  ·rw[if_neg e,mergeTo_at X Y r i h];by_cases h2:i<r
   ·rw[if_pos h2,if_pos (by omega)]
   ·rw[if_neg h2,if_neg (by omega)]
 ·rw[List.getElem?_eq_none (l:=mergeTo X Y (r+1)) (by rw[mergeTo_len];omega)];by_cases e:r=i
  ·rw[if_pos e,if_neg (by rw[mergeTo_len];omega)]
  ·rw[if_neg e,List.getElem?_eq_none (by rw[mergeTo_len];omega)]
theorem mergeTo_keep (X Y:List UInt8) (r:Nat) (hx:(X.getD r 0==120)=false):mergeTo X Y r=mergeTo X Y (r+1):=by
 apply List.ext_getElem?;intro i;by_cases h:i<X.length
 ·rw[mergeTo_at X Y r i h,mergeTo_at X Y (r+1) i h];by_cases e:i=r
  ·subst e;rw[if_neg (by omega),if_pos (by omega),mrg,hx];rfl
  ·by_cases h2:i<r
   ·rw[if_pos h2,if_pos (by omega)]
   ·rw[if_neg h2,if_neg (by omega)]
 ·rw[List.getElem?_eq_none (by rw[mergeTo_len];omega),List.getElem?_eq_none (by rw[mergeTo_len];omega)]
theorem cmpt_cases (x y:UInt8):∃i j:Int,i=(x.toNat:Int)∧j=(y.toNat:Int)∧(((i==120)=true∧(x==120)=true∧cmpt x y=true)∨((i==120)=false∧(x==120)=false∧(j != 120)=false∧cmpt x y=true)∨((i==120)=false∧(x==120)=false∧(j != 120)=true∧(i != j)=false∧cmpt x y=true)∨((i==120)=false∧(x==120)=false∧(j != 120)=true∧(i != j)=true∧cmpt x y=false)):=by
 refine⟨_,_,rfl,rfl,?_⟩;rw[bne,bne,u8_x,u8_x,u8_eq];unfold cmpt;cases x==120<;>cases y==120<;>cases x==y<;>simp
theorem next_all {X Y:List UInt8} {r:Nat} (h:∀j,j<r→cmpt (X.getD j 0) (Y.getD j 0)=true) (hr:cmpt (X.getD r 0) (Y.getD r 0)=true):∀j,j<r+1→cmpt (X.getD j 0) (Y.getD j 0)=true:=fun j hj=>by
 by_cases e:j=r
 ·rw[e];exact hr
 ·exact h j (by omega)
def RMeetS (w : World) (a b : Nat → Int) (W : World) : Prop := Blk w.heap.size (cc a) 37 W ∧ Blk (w.heap.size + 1) (cc b) 37 W ∧ Blk (w.heap.size + 1 + 1) #[Value.int IntKind.u64 0, Value.int IntKind.u64 0, Value.int IntKind.u64 0, Value.int IntKind.u64 0, Value.int IntKind.u64 0, Value.int IntKind.u64 0, Value.int IntKind.u64 0, Value.int IntKind.u64 0, Value.int IntKind.u64 0, Value.int IntKind.u64 0, Value.int IntKind.u64 0, Value.int IntKind.u64 0, Value.int IntKind.u64 0, Value.int IntKind.u64 0, Value.int IntKind.u64 0, Value.int IntKind.u64 0, Value.int IntKind.u64 0, Value.int IntKind.u64 0, Value.int IntKind.u64 0, Value.int IntKind.u64 0, Value.int IntKind.u64 0, Value.int IntKind.u64 0, Value.int IntKind.u64 0, Value.int IntKind.u64 0] 37 W ∧ Below w.heap.size w W
theorem RMeetS.below {w:World} {a b:Nat→Int} {W W':World} (hb:Below W.heap.size W W') (s:RMeetS w a b W):RMeetS w a b W':=⟨s.1.below hb,s.2.1.below hb,s.2.2.1.below hb,s.2.2.2.trans (hb.mono s.2.2.2.size)⟩
theorem RMeetS.start (w:World) (a b:Nat→Int):RMeetS w a b (((w.alloc (.cells (cc a) 37)).alloc (.cells (cc b) 37)).alloc (.cells #[.int .u64 0,.int .u64 0,.int .u64 0,.int .u64 0,.int .u64 0,.int .u64 0,.int .u64 0,.int .u64 0,.int .u64 0,.int .u64 0,.int .u64 0,.int .u64 0,.int .u64 0,.int .u64 0,.int .u64 0,.int .u64 0,.int .u64 0,.int .u64 0,.int .u64 0,.int .u64 0,.int .u64 0,.int .u64 0,.int .u64 0,.int .u64 0] 37)):=⟨((Blk.new w (cc a) 37).old _).old _,(Blk.new2 w _ (cc b) 37).old _,Blk.new3 w _ _ _ _,(below2 w _ _).alloc (by simp;omega) _⟩
theorem RMeetS.set {w:World} {a b:Nat→Int} {W:World} (s:RMeetS w a b W) {g:Nat} (hg:w.heap.size+1+1<g) (k:Nat) (v:Value):RMeetS w a b (W.setCell ⟨g,k,none⟩ v):=⟨s.1.cother (by omega) _,s.2.1.cother (by omega) _,s.2.2.1.cother (by omega) _,s.2.2.2.setCell (by show w.heap.size≤g;omega) _⟩
set_option maxHeartbeats 1000000 in
theorem rmeet_unsound (a b:Nat→Int) (wa:Wf a) (wb:Wf b) (hs:(csnd a&&csnd b)=false) (w:World):Calls Tryz.prog 27 #[.agg (cc a),.agg (cc b)] w fun e w'=>e= .returned (.tuple #[.agg (cc zh),.bool false])∧Below w.heap.size w w':=by
 have S0:=qH (RMeetS.start w a b);have HT:=qH fun W=>rtext_any a wa W;have HW:=qH fun W=>rtext_any b wb W;clear wa wb;generalize textTo a 12=X at*;generalize textTo b 12=Y at*;generalize csnd a=k0 at*;generalize csnd b=k1 at*;(go_enter Tryz.func27,Tryz.ntmps27);(go_wp2_with(refine wpList_load_row rfl 37 _ rfl w.heap.size rfl 37 (cc a) (0,0) _ S0.out.1 Tryz.underlying37 rfl (by kernel_rfl) ?_));refine(HT.out _).mono ?_;rintro e w1 ⟨rfl,hw1⟩;have S1:=qH (RMeetS.below hw1 S0.out);clear hw1 S0 HT;(go_wp2_with(refine wpList_load_row rfl 37 _ rfl (w.heap.size+1) rfl 37 (cc b) (0,0) _ S1.out.2.1 Tryz.underlying37 rfl (by kernel_rfl) ?_));refine(HW.out _).mono ?_;rintro e w2 ⟨rfl,hw2⟩;have S2:=qH (RMeetS.below hw2 S1.out);clear hw2 S1 HW;cases k0
 ·(go_wp2_with(refine wpList_store_row rfl 37 _ _ rfl (w.heap.size+1+1) #[.int .u64 0,.int .u64 0,.int .u64 0,.int .u64 0,.int .u64 0,.int .u64 0,.int .u64 0,.int .u64 0,.int .u64 0,.int .u64 0,.int .u64 0,.int .u64 0,.int .u64 0,.int .u64 0,.int .u64 0,.int .u64 0,.int .u64 0,.int .u64 0,.int .u64 0,.int .u64 0,.int .u64 0,.int .u64 0,.int .u64 0,.int .u64 0] rfl rfl 37 _ S2.out.2.2.1 (by kernel_rfl) rfl (by kernel_rfl) ?_));refine bodyPost_ret (v:= .tuple #[.agg (cc zh),.bool false]) ?_ rfl ⟨rfl,below_setRow S2.out.2.2.2 (by omega) _⟩;exact res_row Tryz.results27 (cs:=cc zh) rfl rfl (S2.out.2.2.1.rset _) Tryz.underlying37 rfl (by kernel_rfl)
 ·cases k1
  ·(go_wp2_with(refine wpList_store_row rfl 37 _ _ rfl (w.heap.size+1+1) #[.int .u64 0,.int .u64 0,.int .u64 0,.int .u64 0,.int .u64 0,.int .u64 0,.int .u64 0,.int .u64 0,.int .u64 0,.int .u64 0,.int .u64 0,.int .u64 0,.int .u64 0,.int .u64 0,.int .u64 0,.int .u64 0,.int .u64 0,.int .u64 0,.int .u64 0,.int .u64 0,.int .u64 0,.int .u64 0,.int .u64 0,.int .u64 0] rfl rfl 37 _ S2.out.2.2.1 (by kernel_rfl) rfl (by kernel_rfl) ?_));refine bodyPost_ret (v:= .tuple #[.agg (cc zh),.bool false]) ?_ rfl ⟨rfl,below_setRow S2.out.2.2.2 (by omega) _⟩;exact res_row Tryz.results27 (cs:=cc zh) rfl rfl (S2.out.2.2.1.rset _) Tryz.underlying37 rfl (by kernel_rfl)
  ·exact absurd hs (by decide)
set_option maxHeartbeats 2000000 in
theorem rmeet_sound (a b m:Nat→Int) (y:Bool) (wa:Wf a) (wb:Wf b) (hsa:csnd a=true) (hsb:csnd b=true) (hno:∀r,r<248→cmpt ((textTo a 12).getD r 0) ((textTo b 12).getD r 0)=false→y=false∧cc m=cc zh) (hyes:(∀r,r<248→cmpt ((textTo a 12).getD r 0) ((textTo b 12).getD r 0)=true)→y=true∧∀W,Calls Tryz.prog 58 #[.string ⟨(mergeTo (textTo a 12) (textTo b 12) 248).toArray⟩] W fun e w'=>e= .returned (.agg (cc m))∧Below W.heap.size W w') (w:World):Calls Tryz.prog 27 #[.agg (cc a),.agg (cc b)] w fun e w'=>e= .returned (.tuple #[.agg (cc m),.bool y])∧Below w.heap.size w w':=by
 have S0:=qH (RMeetS.start w a b);have HT:=qH fun W=>rtext_any a wa W;have HW:=qH fun W=>rtext_any b wb W;have HLX:=qH (text_len a);have HLY:=qH (text_len b);have HNO:=qH hno;have HYS:=qH hyes;clear wa wb hno hyes;rw[hsa] at HT;rw[hsb] at HW;clear hsa hsb;generalize textTo a 12=X at*;generalize textTo b 12=Y at*;(go_enter Tryz.func27,Tryz.ntmps27);(go_wp2_with(refine wpList_load_row rfl 37 _ rfl w.heap.size rfl 37 (cc a) (0,0) _ S0.out.1 Tryz.underlying37 rfl (by kernel_rfl) ?_));refine(HT.out _).mono ?_;rintro e w1 ⟨rfl,hw1⟩;have S1:=qH (RMeetS.below hw1 S0.out);clear hw1 S0 HT;(go_wp2_with(refine wpList_load_row rfl 37 _ rfl (w.heap.size+1) rfl 37 (cc b) (0,0) _ S1.out.2.1 Tryz.underlying37 rfl (by kernel_rfl) ?_));refine(HW.out _).mono ?_;rintro e w2 ⟨rfl,hw2⟩;have S2:=qH (RMeetS.below hw2 S1.out);clear hw2 S1 HW;obtain⟨cap,W3,hconv,hbuf,hbel⟩:=toBytes X w2;have hg:w.heap.size+1+1<w2.heap.size:=S2.out.2.2.1.lt;have S3:=qH (RMeetS.below hbel S2.out);have BF:=qH hbuf;clear S2 hbuf hbel;(go_wp2_with fail);clear hconv;generalize w2.heap.size=g at*;go_loopg [11] 248 (fun gk i wr=>∃r:Nat,r+gk=248∧i= .int .i64 r∧(∀j,j<r→cmpt (X.getD j 0) (Y.getD j 0)=true)∧BufAt g (mergeTo X Y r) wr∧RMeetS w a b wr)
 case atStart=>exact⟨0,by omega,rfl,fun j h=>absurd h (by omega),by rw[mergeTo_zero];exact BF.out,S3.out⟩
 case round=>
  clear S3 BF;obtain⟨r,hr,rfl,hq,hbf,hS⟩:=hrel;have HQ:=qH hq;have BF:=qH hbf;have HS:=qH hS;clear hq hbf hS;by_cases hlt:r<248
  ·have hlen:r<X.length:=(by have:=HLX.out;omega);have hlenI:(r:Int)<(X.length:Int):=(by omega);have hdI:decide ((r:Int)<(X.length:Int))=true:=decide_eq_true hlenI;have ix:=idxText (getD_at hlen);have iy:=idxText (getD_at (X:=Y) (r:=r) (by have:=HLY.out;omega));obtain⟨na,nb,ea,eb,hcs⟩:=cmpt_cases (X.getD r 0) (Y.getD r 0);rw[←ea] at ix;rw[←eb] at iy;have EB:=qH eb;clear ea eb;rcases hcs with⟨t1,tx,hc⟩|⟨t1,tx,t2,hc⟩|⟨t1,tx,t2,t3,hc⟩|⟨t1,tx,t2,t3,hc⟩
   ·have HN:=qH (mergeTo_set X Y r tx);have HQ1:=qH (next_all HQ.out hc);have k1:=BF.out.cell (mergeTo_at X Y r r hlen);have f1:=BF.out.frozen (j:=r) (by rw[mergeTo_len];exact hlen);have BF1:=qH (BF.out.set r (Y.getD r 0));rw[←EB.out,HN.out] at BF1;have HS1:=qH (HS.out.set hg r (.int .u8 nb));clear tx hc HQ;generalize(if r<r then mrg (X.getD r 0) (Y.getD r 0) else X.getD r 0)=old at*;go_wp2;clear k1 f1 t1 ix iy BF HS;go_roundg (248 - (r+1))
    case measure=>omega
    case rel=>exact⟨r+1,by omega,by go_num,HQ1.out,BF1.out,HS1.out⟩
   ·have HQ1:=qH (next_all HQ.out hc);have HN:=qH (mergeTo_keep X Y r tx);clear tx hc HQ;(go_wp2_with fail);(go_quiet (fail));have HS1:=qH (RMeetS.below (belowDrewN wr nq) HS.out);have BF1:=qH (BF.out.below (belowDrewN wr nq));rw[HN.out] at BF1;(go_wp2_with fail);go_roundg (248 - (r+1))
    case measure=>omega
    case rel=>exact⟨r+1,by omega,by go_num,HQ1.out,BF1.out,HS1.out⟩
   ·have HQ1:=qH (next_all HQ.out hc);have HN:=qH (mergeTo_keep X Y r tx);clear tx hc HQ;(go_wp2_with fail);(go_quiet (fail));have HS1:=qH (RMeetS.below (belowDrewN wr nq) HS.out);have BF1:=qH (BF.out.below (belowDrewN wr nq));rw[HN.out] at BF1;(go_wp2_with fail);go_roundg (248 - (r+1))
    case measure=>omega
    case rel=>exact⟨r+1,by omega,by go_num,HQ1.out,BF1.out,HS1.out⟩
   ·have HR:=qH (HNO.out r hlt hc);clear tx hc HQ;(go_wp2_with fail);(go_quiet (fail));have HS1:=qH (RMeetS.below (belowDrewN wr nq) HS.out);generalize wr.drewN nq=W4 at*;(go_wp2_with(refine wpList_store_row rfl 37 _ _ rfl (w.heap.size+1+1) #[.int .u64 0,.int .u64 0,.int .u64 0,.int .u64 0,.int .u64 0,.int .u64 0,.int .u64 0,.int .u64 0,.int .u64 0,.int .u64 0,.int .u64 0,.int .u64 0,.int .u64 0,.int .u64 0,.int .u64 0,.int .u64 0,.int .u64 0,.int .u64 0,.int .u64 0,.int .u64 0,.int .u64 0,.int .u64 0,.int .u64 0,.int .u64 0] rfl rfl 37 _ HS1.out.2.2.1 (by kernel_rfl) rfl (by kernel_rfl) ?_));refine bodyPost_ret (v:= .tuple #[.agg (cc zh),.bool false]) ?_ rfl ⟨by rw[HR.out.1,HR.out.2],below_setRow HS1.out.2.2.2 (by omega) _⟩;exact res_row Tryz.results27 (cs:=cc zh) rfl rfl (HS1.out.2.2.1.rset _) Tryz.underlying37 rfl (by kernel_rfl)
  ·obtain rfl:r=248:=(by omega);have hlenI:¬248<X.length:=(by have:=HLX.out;omega);have hdI:decide ((248:Int)<(X.length:Int))=false:=decide_eq_false (by have:=HLX.out;omega);obtain⟨hy,hfr⟩:=HYS.out HQ.out;have HFR:=qH hfr;have HYY:=qH hy;have hcv:=conv_buf (cap:=cap) BF.out (mergeTo_len X Y 248).symm;clear hy hfr HQ;(go_wp2_with fail);refine(HFR.out _).mono ?_;rintro e w5 ⟨rfl,hw5⟩;have HS1:=qH (RMeetS.below hw5 HS.out);clear hw5 HS BF HFR hcv;(go_wp2_with(refine wpList_store_row rfl 37 _ _ rfl (w.heap.size+1+1) (cc m) rfl rfl 37 _ HS1.out.2.2.1 (by kernel_rfl) rfl (cc_one _) ?_));refine bodyPost_ret (v:= .tuple #[.agg (cc m),.bool true]) ?_ rfl ⟨by rw[HYY.out],below_setRow HS1.out.2.2.2 (by omega) _⟩;exact res_row Tryz.results27 rfl rfl (HS1.out.2.2.1.rset _) Tryz.underlying37 rfl (by kernel_rfl)
theorem place_lt {q k:Nat} (hq:q<12) (hk:k<(sz q).toNat):offF q+k<248:=by
 have:=offF_mono (show q+1≤12 by omega);rw[offF,offF_12] at this;omega
theorem text_get (c:Nat→Int) {q k:Nat} (hq:q<12) (hk:k<(sz q).toNat):(textTo c 12).getD (offF q+k) 0=letT c q k:=by
 rw[List.getD_eq_getElem?_getD,textTo_at c hk 12 hq];rfl
theorem whole_get (h:Nat→Int) {q k:Nat} (hq:q<12) (hk:k<(sz q).toNat):(wholeTo h 12).getD (offF q+k) 0=letL h q k:=by
 rw[List.getD_eq_getElem?_getD,wholeTo_at h hk 12 hq];rfl
theorem places {P:Nat→Prop}:(∀p,p<248→P p)↔∀q k,q<12→k<(sz q).toNat→P (offF q+k):=by
 constructor
 ·intro h q k hq hk;exact h _ (place_lt hq hk)
 ·intro h p hp;obtain⟨q,k,h1,h2,rfl⟩:=place p 12 (by rw[offF_12];exact hp);exact h q k h1 h2
theorem all2_iff (p:UInt8→UInt8→Bool) (X Y:List UInt8) (r:Nat):all2 p X Y r=true↔∀i,i<r→p (X.getD i 0) (Y.getD i 0)=true:=by
 unfold all2;rw[List.all_eq_true];constructor
 ·intro h i hi;exact h i (by simpa using hi)
 ·intro h i hi;exact h i (by simpa using hi)
theorem mtch_bits (v c h:Bool):mtch (chT v c) (chB h)=(!c||(v==h)):=by cases v<;>cases c<;>cases h<;>decide
theorem htcm_bits (va ca vb cb:Bool):htcm (chT va ca) (chT vb cb)=(!cb||(ca&&(va==vb))):=by cases va<;>cases ca<;>cases vb<;>cases cb<;>decide
theorem cmpt_bits (va ca vb cb:Bool):cmpt (chT va ca) (chT vb cb)=(!ca|| !cb||(va==vb)):=by cases va<;>cases ca<;>cases vb<;>cases cb<;>decide
theorem mrg_bits {va ca vb cb:Bool} (h1:va=true→ca=true) (h2:vb=true→cb=true) (h3:ca=true→cb=true→va=vb):mrg (chT va ca) (chT vb cb)=chT (va||vb) (ca||cb):=by
 revert h1 h2 h3;cases va<;>cases ca<;>cases vb<;>cases cb<;>decide
theorem has_text {c h:Nat→Int} (hc:Wf c) (hh:Wf h):((csnd c&&all2 mtch (textTo c 12) (wholeTo h 12) 248)&&sndB h)=hasB c h:=by
 cases sc:csnd c
 ·rw[hasB_cube sc];rfl
 ·cases sh:sndB h
  ·rw[hasB_head sh,Bool.and_false]
  ·rw[Bool.true_and,Bool.and_true,Bool.eq_iff_iff,all2_iff,places];have ic:=(csnd_iff hc).1 sc;have ih:=(snd_iff h).1 sh;have e:hasB c h=true↔∀j,j<12→offB c h j=false:=by
    unfold hasB;rw[sc,sh,Bool.true_and,Bool.true_and,List.all_eq_true];constructor
    ·intro H j hj;have:=H j (by simpa using hj);simpa using this
    ·intro H j hj;have:=H j (by simpa using hj);simp[this]
   rw[e];refine forall_congr' fun q=>?_;constructor
   ·intro H hq;rw[off_iff hc hh];intro t;unfold bitAt;rcases Nat.lt_or_ge t (sz q).toNat with ht|ht
    ·have:=H ((sz q).toNat - 1 - t) hq (by omega);rw[text_get c hq (by omega),whole_get h hq (by omega),letT,letL,mtch_bits,show(sz q).toNat - 1 - ((sz q).toNat - 1 - t)=t by omega] at this;have p:=(ic q hq).2.2 t;unfold bitAt at p;revert this p;cases(c q).toNat.testBit t<;>cases(c (12+q)).toNat.testBit t<;>cases(h q).toNat.testBit t<;>simp
    ·rw[(fit_bits (hh q).1).1 (ih q hq) t ht,(fit_bits (hc q).1).1 (ic q hq).2.1 t ht];rfl
   ·intro H k hq hk;have:=(off_iff hc hh q).1 (H hq) ((sz q).toNat - 1 - k);rw[text_get c hq hk,whole_get h hq hk,letT,letL,mtch_bits];unfold bitAt at this;revert this;cases(c q).toNat.testBit ((sz q).toNat - 1 - k)<;>cases(c (12+q)).toNat.testBit ((sz q).toNat - 1 - k)<;>cases(h q).toNat.testBit ((sz q).toNat - 1 - k)<;>simp
theorem rhas_any (c h:Nat→Int) (hc:Wf c) (hh:Wf h) (w:World):Calls Tryz.prog 89 #[.agg (cc c),.agg (Go.Proofs.YtomnpfbebimpkaaGreatDoor.hc h)] w fun e w'=>e= .returned (.bool (hasB c h))∧Below w.heap.size w w':=by
 have:=rhas_of c h hc hh w;rwa [has_text hc hh] at this
theorem in_iff {a b:Nat→Int} (ha:Wf a) (hb:Wf b):inB a b=true↔csnd a=true∧csnd b=true∧Ext b a:=by
 constructor
 ·intro h;obtain⟨hm,hcare⟩:=in_ext ha hb h;obtain⟨sa,sb,hm2⟩:=(met_iff ha hb).1 hm;refine⟨sa,sb,fun j hj t ht=>?_⟩;have:=hcare j t hj ht;exact⟨this,hm2 j hj t this ht⟩
 ·rintro⟨sa,sb,h⟩;exact ext_in hb ha sb sa h
theorem within_text {a b:Nat→Int} (ha:Wf a) (hb:Wf b):((csnd a&&all2 htcm (textTo a 12) (textTo b 12) 248)&&csnd b)=inB a b:=by
 rw[Bool.eq_iff_iff,in_iff ha hb,Bool.and_eq_true,Bool.and_eq_true,all2_iff,places];constructor
 ·rintro⟨⟨sa,H⟩,sb⟩;refine⟨sa,sb,fun j hj t ht=>?_⟩;have hn:t<(sz j).toNat:=by
   rcases Nat.lt_or_ge t (sz j).toNat with h|h
   ·exact h
   ·have:=(fit_bits (hb (12+j)).1).1 ((csnd_iff hb).1 sb j hj).1 t h;unfold bitAt at ht;rw[this] at ht;cases ht
  have:=H j ((sz j).toNat - 1 - t) hj (by omega);rw[text_get a hj (by omega),text_get b hj (by omega),letT,letT,htcm_bits,show(sz j).toNat - 1 - ((sz j).toNat - 1 - t)=t by omega] at this;unfold bitAt at ht ⊢;rw[ht] at this;revert this;cases(a (12+j)).toNat.testBit t<;>cases(a j).toNat.testBit t<;>cases(b j).toNat.testBit t<;>simp
 ·rintro⟨sa,sb,H⟩;refine⟨⟨sa,fun q k hq hk=>?_⟩,sb⟩;have:=H q hq ((sz q).toNat - 1 - k);rw[text_get a hq hk,text_get b hq hk,letT,letT,htcm_bits];unfold bitAt at this;revert this;cases(b (12+q)).toNat.testBit ((sz q).toNat - 1 - k)<;>cases(a (12+q)).toNat.testBit ((sz q).toNat - 1 - k)<;>cases(a q).toNat.testBit ((sz q).toNat - 1 - k)<;>cases(b q).toNat.testBit ((sz q).toNat - 1 - k)<;>simp
theorem rwithin_any (a b:Nat→Int) (ha:Wf a) (hb:Wf b) (w:World):Calls Tryz.prog 86 #[.agg (cc a),.agg (cc b)] w fun e w'=>e= .returned (.bool (inB a b))∧Below w.heap.size w w':=by
 have:=rwithin_of a b ha hb w;rwa [within_text ha hb] at this
theorem snd_from {c:Nat→Int} (hc:Wf c) (sc:csnd c=true):Fit24 c∧∀j,j<12→∀t,bitAt c j t=true→bitAt c (12+j) t=true:=by
 have ic:=(csnd_iff hc).1 sc;exact⟨fun j hj=>⟨(ic j hj).2.1,(ic j hj).1⟩,fun j hj=>(ic j hj).2.2⟩
theorem rfrom_any (c:Nat→Int) (hc:Wf c) (sc:csnd c=true) (w:World):Calls Tryz.prog 58 #[.string ⟨(textTo c 12).toArray⟩] w fun e w'=>e= .returned (.agg (cc c))∧Below w.heap.size w w':=rfrom_text c hc (snd_from hc sc).1 (snd_from hc sc).2 w
theorem cmpt_met {a b:Nat→Int} (ha:Wf a) (hb:Wf b) (sa:csnd a=true) (sb:csnd b=true):(∀r,r<248→cmpt ((textTo a 12).getD r 0) ((textTo b 12).getD r 0)=true)↔metB a b=true:=by
 rw[places,met_iff ha hb];constructor
 ·intro H;refine⟨sa,sb,fun j hj t h1 h2=>?_⟩;have hn:t<(sz j).toNat:=by
   rcases Nat.lt_or_ge t (sz j).toNat with h|h
   ·exact h
   ·have:=(fit_bits (hb (12+j)).1).1 ((csnd_iff hb).1 sb j hj).1 t h;unfold bitAt at h2;rw[this] at h2;cases h2
  have:=H j ((sz j).toNat - 1 - t) hj (by omega);rw[text_get a hj (by omega),text_get b hj (by omega),letT,letT,cmpt_bits,show(sz j).toNat - 1 - ((sz j).toNat - 1 - t)=t by omega] at this;unfold bitAt at h1 h2 ⊢;rw[h1,h2] at this;simpa using this
 ·rintro⟨_,_,H⟩ q k hq hk;have:=H q hq ((sz q).toNat - 1 - k);rw[text_get a hq hk,text_get b hq hk,letT,letT,cmpt_bits];unfold bitAt at this;revert this;cases(b (12+q)).toNat.testBit ((sz q).toNat - 1 - k)<;>cases(a (12+q)).toNat.testBit ((sz q).toNat - 1 - k)<;>cases(a q).toNat.testBit ((sz q).toNat - 1 - k)<;>cases(b q).toNat.testBit ((sz q).toNat - 1 - k)<;>simp
theorem merge_text {a b:Nat→Int} (ha:Wf a) (hb:Wf b) (hm:metB a b=true):mergeTo (textTo a 12) (textTo b 12) 248=textTo (orC a b) 12:=by
 obtain⟨sa,sb,H⟩:=(met_iff ha hb).1 hm;have ia:=(csnd_iff ha).1 sa;have ib:=(csnd_iff hb).1 sb;refine text_ext (by rw[mergeTo_len,text_len]) fun q k hq hk=>?_;rw[mergeTo_at _ _ _ _ (by rw[text_len];exact place_lt hq hk),if_pos (place_lt hq hk),text_get a hq hk,text_get b hq hk];have e1:=orC_bit ha hb q ((sz q).toNat - 1 - k);have e2:=orC_bit ha hb (12+q) ((sz q).toNat - 1 - k);unfold bitAt at e1 e2;unfold letT;rw[e1,e2];exact congrArg some (mrg_bits ((ia q hq).2.2 _) ((ib q hq).2.2 _) (H q hq _))
theorem rmeet_any (a b:Nat→Int) (ha:Wf a) (hb:Wf b) (w:World):Calls Tryz.prog 27 #[.agg (cc a),.agg (cc b)] w fun e w'=>e= .returned (.tuple #[.agg (cc (metV a b)),.bool (metB a b)])∧Below w.heap.size w w':=by
 cases hs:(csnd a&&csnd b)
 ·have hm:metB a b=false:=(by unfold metB;rw[hs];rfl);rw[metV,hm];exact rmeet_unsound a b ha hb hs w
 ·obtain⟨sa,sb⟩:csnd a=true∧csnd b=true:=(by simpa using hs);refine rmeet_sound a b _ _ ha hb sa sb (fun r hr hc=>?_) (fun H=>?_) w
  ·have hm:metB a b=false:=by
    cases hm:metB a b
    ·rfl
    ·rw[(cmpt_met ha hb sa sb).2 hm r hr] at hc;cases hc
   exact⟨hm,by rw[metV,hm];rfl⟩
  ·have hm:=(cmpt_met ha hb sa sb).1 H;refine⟨hm,fun W=>?_⟩;rw[metV_yes hm,merge_text ha hb hm];exact rfrom_any _ (orC_wf ha hb) (orC_snd ha hb sa sb) W
end Go.Proofs.YtomnpfbebimpkaaGreatDoor
