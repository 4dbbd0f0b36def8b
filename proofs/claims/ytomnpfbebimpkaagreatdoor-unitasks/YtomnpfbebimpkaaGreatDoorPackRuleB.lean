/- Several of my texts as one: RuleEql, RuleTbl. -/
import Derived.Test.YtomnpfbebimpkaaGreatDoorPackRule
import Derived.Test.YtomnpfbebimpkaaGreatDoorSq
/-
  The walks of equal, slices.EqualFunc, Same of package rule; of the reference's Equal and Same.
-/
namespace Go.Proofs.YtomnpfbebimpkaaGreatDoor
set_option maxRecDepth 20000
open Go.RowKit
set_option maxHeartbeats 1000000 in
set_option maxRecDepth 100000 in
theorem requalR_any (a b:Rm) (hb:b.u.acts.length≤140737488355328) (w:World) (la:InA a w) (lb:InA b w):Calls Tryz.prog 34 #[.agg (rca a),.agg (rca b)] w fun e w'=>e= .returned (.bool (rEq a.u b.u))∧Below w.heap.size w w':=by
 have RA:=qH (two_a w a b);have RB:=qH (two_b w a b);have HB:=qH (two_below w a b);have HK:=qH (rkey_any a b ((w.alloc (.cells (rca a) 88)).alloc (.cells (rca b) 88)));have HA:=qH (fun(W:World) (h:Below w.heap.size w W)=>rsameA_any (.slice a.q a.n a.c) (.slice b.q b.n b.c) a.u.acts b.u.acts hb W (la.below h) (lb.below h));obtain⟨y,hy⟩:∃y,y=rEq a.u b.u:=⟨_,rfl⟩;rw[←hy];unfold rEq at hy;have HY:=qH hy;clear la lb hy;cases hk:keyB a.u b.u
 ·rw[hk] at HK;(go_enter Tryz.func34,Tryz.ntmps34);(go_wp2_with(first|(refine wpList_load_row rfl 88 (.tmp 2) rfl w.heap.size rfl 88 (rca a) (0,0) _ RA.out Tryz.underlying88 rfl infoR ?_)|(refine wpList_load_row rfl 88 (.tmp 3) rfl (w.heap.size+1) rfl 88 (rca b) (0,0) _ RB.out Tryz.underlying88 rfl infoR ?_)|(go_at_call 53;refine HK.out.mono ?_;rintro e w1 ⟨rfl,hw1⟩)));go_ret;exact⟨ret_bool (by rw[HY.out,hk];rfl),HB.out.trans (hw1.mono HB.out.size)⟩
 ·rw[hk] at HK;(go_enter Tryz.func34,Tryz.ntmps34);(go_wp2_with(first|(refine wpList_load_row rfl 88 (.tmp 2) rfl w.heap.size rfl 88 (rca a) (0,0) _ RA.out Tryz.underlying88 rfl infoR ?_)|(refine wpList_load_row rfl 88 (.tmp 3) rfl (w.heap.size+1) rfl 88 (rca b) (0,0) _ RB.out Tryz.underlying88 rfl infoR ?_)|(go_at_call 53;refine HK.out.mono ?_;rintro e w1 ⟨rfl,hw1⟩;refine Hid.out ?_)));have RA1:=qH (RA.out.below hw1);have RB1:=qH (RB.out.below hw1);have HE1:=qH (HB.out.trans (hw1.mono HB.out.size));have HA1:=qH (HA.out w1 HE1.out);clear hw1 HK RA RB HB HA;have ka:=RA1.out.cellsR.2.2.1;have kb:=RB1.out.cellsR.2.2.1;cases hs:aEqL a.u.acts b.u.acts
  ·rw[hs] at HA1;refine qH ?_;(go_wp2_with(go_at_call 66;refine HA1.out.mono ?_;rintro e w2 ⟨rfl,hw2⟩));go_ret;exact⟨ret_bool (by rw[HY.out,hk,hs];rfl),HE1.out.trans (hw2.mono HE1.out.size)⟩
  ·rw[hs] at HA1;refine qH ?_;(go_wp2_with(go_at_call 66;refine HA1.out.mono ?_;rintro e w2 ⟨rfl,hw2⟩;refine Hid.out ?_));have RA2:=qH (RA1.out.below hw2);have RB2:=qH (RB1.out.below hw2);have HE2:=qH (HE1.out.trans (hw2.mono HE1.out.size));clear hw2 HA1 RA1 RB1 HE1 ka kb;obtain⟨_,_,_,a26,a27,a28,a29,a30,a31⟩:=RA2.out.cellsR;obtain⟨_,_,_,b26,b27,b28,b29,b30,b31⟩:=RB2.out.cellsR;refine qH ?_;cases eidle:a.u.idle==b.u.idle
   ·(go_wp2_with fail);go_ret;exact⟨ret_bool (by rw[HY.out,hk,hs,eidle];rfl),HE2.out⟩
   ·skip;cases ehard:a.u.hard==b.u.hard
    ·(go_wp2_with fail);go_ret;exact⟨ret_bool (by rw[HY.out,hk,hs,eidle,ehard];rfl),HE2.out⟩
    ·skip;cases eowner:a.u.owner==b.u.owner
     ·(go_wp2_with fail);go_ret;exact⟨ret_bool (by rw[HY.out,hk,hs,eidle,ehard,eowner];rfl),HE2.out⟩
     ·skip;cases ehits:a.u.hits==b.u.hits
      ·(go_wp2_with fail);go_ret;exact⟨ret_bool (by rw[HY.out,hk,hs,eidle,ehard,eowner,ehits];rfl),HE2.out⟩
      ·skip;cases equiet:a.u.quiet==b.u.quiet
       ·(go_wp2_with fail);go_ret;exact⟨ret_bool (by rw[HY.out,hk,hs,eidle,ehard,eowner,ehits,equiet];rfl),HE2.out⟩
       ·skip;cases eage:a.u.age==b.u.age
        ·(go_wp2_with fail);go_ret;exact⟨ret_bool (by rw[HY.out,hk,hs,eidle,ehard,eowner,ehits,equiet,eage];rfl),HE2.out⟩
        ·skip;(go_wp2_with fail);go_ret;exact⟨ret_bool (by rw[HY.out,hk,hs,eidle,ehard,eowner,ehits,equiet,eage];rfl),HE2.out⟩
def sameL : List Ru → List Ru → Bool
  | [], [] => true
  | a :: l, b :: k => rEq a b && sameL l k
  | _, _ => false
theorem sameL_len:∀{l k:List Ru},l.length≠k.length→sameL l k=false
 |[],[],h=>absurd rfl h
 |[],_::_,_=>rfl
 |_::_,[],_=>rfl
 |a::l,b::k,h=>by rw[sameL,sameL_len (l:=l) (k:=k) (by simpa using h),Bool.and_false]
theorem sameL_ne:∀{l k:List Ru} {i:Nat} {a b:Ru},l[i]? =some a→k[i]? =some b→rEq a b=false→sameL l k=false
 |[],_,i,a,b,h,_,_=>by simp at h
 |_::_,[],i,a,b,_,h,_=>by simp at h
 |c::l,d::k,0,a,b,h1,h2,h=>by simp only[List.getElem?_cons_zero,Option.some.injEq] at h1 h2;subst h1 h2;rw[sameL,h,Bool.false_and]
 |c::l,d::k,i+1,a,b,h1,h2,h=>by rw[sameL,sameL_ne (l:=l) (k:=k) (i:=i) (by simpa using h1) (by simpa using h2) h,Bool.and_false]
theorem sameL_yes:∀{l k:List Ru},l.length=k.length→(∀(i:Nat) a b,l[i]? =some a→k[i]? =some b→rEq a b=true)→sameL l k=true
 |[],[],_,_=>rfl
 |[],_::_,h,_=>by simp at h
 |_::_,[],h,_=>by simp at h
 |a::l,b::k,h,hq=>by rw[sameL,hq 0 a b rfl rfl,sameL_yes (l:=l) (k:=k) (by simpa using h) (fun i x y hx hy=>hq (i+1) x y (by simpa using hx) (by simpa using hy))];rfl
theorem sameL_self:∀l:List Ru,sameL l l=true
 |[]=>rfl
 |a::l=>by rw[sameL,rEq_self,sameL_self l];rfl
def SmS (w0 : World) (v1 v2 : Value) (l k : List Rm) (W : World) : Prop := RLies v1 l W ∧ RLies v2 k W ∧ Below w0.heap.size w0 W
theorem SmS.below {w0:World} {v1 v2:Value} {l k:List Rm} {W W':World} (hb:Below W.heap.size W W') (h:SmS w0 v1 v2 l k W):SmS w0 v1 v2 l k W':=⟨h.1.below hb,h.2.1.below hb,h.2.2.trans (hb.mono h.2.2.size)⟩
theorem map_get {l:List Rm} {j:Nat} {a:Ru} (h:(l.map (·.u))[j]? =some a):∃x,l[j]? =some x∧x.u=a:=by
 rw[List.getElem?_map,Option.map_eq_some_iff] at h;exact h
theorem get_map {l:List Rm} {j:Nat} {x:Rm} (h:l[j]? =some x):(l.map (·.u))[j]? =some x.u:=by rw[List.getElem?_map,h];rfl
theorem sameM_yes {l k:List Rm} (hl:l.length=k.length) (h:∀(j:Nat) x y,l[j]? =some x→k[j]? =some y→rEq x.u y.u=true):sameL (l.map (·.u)) (k.map (·.u))=true:=sameL_yes (by simpa using hl) fun i a b ha hb=>by
 obtain⟨x,hx,rfl⟩:=map_get ha;obtain⟨y,hy,rfl⟩:=map_get hb;exact h i x y hx hy
set_option maxRecDepth 100000 in
set_option maxHeartbeats 2000000 in
theorem rsame_rules (v1 v2:Value) (l k:List Rm) (hlen:l.length≤1000000) (hk:WfRL k) (w0:World) (h1:RLies v1 l w0) (h2:RLies v2 k w0):Calls Tryz.prog 14 #[v1,v2] w0 fun e w'=>e= .returned (.bool (sameL (l.map (·.u)) (k.map (·.u))))∧Below w0.heap.size w0 w':=by
 obtain⟨p1,c1,rfl⟩:=h1.1.form;obtain⟨p2,c2,rfl⟩:=h2.1.form;have HS:=qH (show SmS w0 (.slice p1 l.length c1) (.slice p2 k.length c2) l k w0 from⟨h1,h2,Below.refl _ _⟩);have HW:=qH hk;clear h1 h2 hk;by_cases hlk:l.length=k.length
 ·have hd:=eq_len hlk;have HLK:=qH hlk;clear hlk;(go_enter Tryz.func14,Tryz.ntmps14);(go_wp2_with fail);clear hd;go_loopg [5] l.length (fun kk i wr=>∃r:Nat,r+kk=l.length∧i= .int .i64 r∧(∀(j:Nat) x y,j<r→l[j]? =some x→k[j]? =some y→rEq x.u y.u=true)∧SmS w0 (.slice p1 l.length c1) (.slice p2 k.length c2) l k wr)
  case atStart=>exact⟨0,by omega,rfl,fun j _ _ h=>absurd h (by omega),HS.out⟩
  case round=>
   clear HS;obtain⟨r,hr,rfl,hq,hs⟩:=hrel;have HQ:=qH hq;have HS:=qH hs;clear hq hs;by_cases hlt:r<l.length
   ·have hltI:(r:Int)<(l.length:Int):=(by omega);have hltK:(r:Int)<(k.length:Int):=(by have:=HLK.out;omega);obtain⟨x,hx⟩:=lt_some hlt;obtain⟨y,hy⟩:=lt_some (show r<k.length by have:=HLK.out;omega);obtain⟨b1,o1,rfl,_⟩:=HS.out.1.1.at hx;obtain⟨b2,o2,rfl,_⟩:=HS.out.2.1.1.at hy;have HX:=qH (And.intro hx hy);clear hx hy;have HC:=qH (fun(W:World) (h:SmS w0 (.slice (some ⟨b1,o1,none⟩) l.length c1) (.slice (some ⟨b2,o2,none⟩) k.length c2) l k W)=>requalR_any x y (HW.out.at HX.out.2).len W (h.1.acts HX.out.1) (h.2.1.acts HX.out.2));obtain⟨z,hz⟩:∃z,z=rEq x.u y.u:=⟨_,rfl⟩;rw[←hz] at HC;have HZ:=qH hz;clear hz;have hdI:decide ((r:Int)<(l.length:Int))=true:=decide_eq_true hltI;(go_upto_region 6 with(fail));refine wp_region_held_drew (S:=SmS w0 (.slice (some ⟨b1,o1,none⟩) l.length c1) (.slice (some ⟨b2,o2,none⟩) k.length c2) l k) (by kernel_rfl) (SmS.below (Below.refl _ _).drew HS.out) (fun hS=>?_);clear HS;generalize wr.drew=W at*;refine sR 0 hS ?_;refine sR 1 hS ?_;refine sR 2 hS ?_;refine sV 3 rfl (fun w hSw=>execRow rfl b1 (o1+r*32) rfl (rcl x) _ (hSw.1.1.at' HX.out.1) Tryz.underlying88 rfl infoR) hS ?_;refine sR 4 hS ?_;refine sR 5 hS ?_;refine sR 6 hS ?_;refine sV 7 rfl (fun w hSw=>execRow rfl b2 (o2+r*32) rfl (rcl y) _ (hSw.2.1.1.at' HX.out.2) Tryz.underlying88 rfl infoR) hS ?_;refine sC 8 (fun K hK=>?_);go_simp;refine(HC.out _ hS).mono ?_;rintro e w1 ⟨rfl,hw1⟩;refine hK.out _ _ (SmS.below hw1 hS) (fun hS=>?_);clear hK K hw1;(try simp only[Act.put,sA,sB,sE]);refine sR 9 hS ?_;refine sD ?_;have HS1:=qH hS;clear hS HC hdI;cases z
    ·have HN:=qH (sameL_ne (get_map HX.out.1) (get_map HX.out.2) HZ.out.symm);(go_wp2_with fail);go_ret;exact⟨ret_bool HN.out.symm,HS1.out.2.2⟩
    ·(go_wp2_with fail);go_roundg (l.length - (r+1))
     case measure=>omega
     case rel=>
      refine⟨r+1,by omega,by go_num,fun j x' y' hj hx' hy'=>?_,HS1.out⟩;by_cases e:j=r
      ·subst e;rw[HX.out.1] at hx';rw[HX.out.2] at hy';rw[←Option.some.inj hx',←Option.some.inj hy'];exact HZ.out.symm
      ·exact HQ.out j x' y' (by omega) hx' hy'
   ·have hltI:¬(r:Int)<(l.length:Int):=(by omega);have HN:=qH (sameM_yes HLK.out fun j x y hx hy=>HQ.out j x y (by have:=(List.getElem?_eq_some_iff.1 hx).1;omega) hx hy);(go_wp2_with fail);go_ret;exact⟨ret_bool HN.out.symm,HS.out.2.2⟩
 ·have hd:=ne_len hlk;have HN:=qH (sameL_len (l:=l.map (·.u)) (k:=k.map (·.u)) (by simpa using hlk));clear hlk;(go_enter Tryz.func14,Tryz.ntmps14);(go_wp2_with fail);go_ret;exact⟨ret_bool HN.out.symm,Below.refl _ _⟩
def okAt (l : List Rm) (i : Nat) : Prop := ∀ x, l[i]? = some x → sndR x.u = true ∧ ∀ q y, i = q + 1 → l[q]? = some y → rOrd y.u x.u < 0
def okTo' (l : List Rm) (r : Nat) : Prop := ∀ i, i < r → okAt l i
def okRB (l : List Rm) (i : Nat) : Bool := match l[i]? with
  | none => true
  | some x => sndR x.u && (match i with
    | 0 => true
    | q + 1 => match l[q]? with
      | none => true
      | some y => decide (rOrd y.u x.u < 0))
def tabB (l : List Rm) : Bool := (List.range l.length).all (okRB l)
theorem okRB_iff (l:List Rm) (i:Nat):okRB l i=true↔okAt l i:=by
 unfold okRB okAt;cases hx:l[i]? with
 |none=>simp
 |some x=>
  cases i with
  |zero=>
   simp only[Bool.and_true];constructor
   ·intro h z hz;injection hz with hz;subst hz;exact⟨h,fun q y e=>by omega⟩
   ·intro h;exact(h x rfl).1
  |succ q=>
   cases hy:l[q]? with
   |none=>
    simp only[hy,Bool.and_true];constructor
    ·intro h z hz;injection hz with hz;subst hz;refine⟨h,fun q' y e hy'=>?_⟩;obtain rfl:q'=q:=(by omega);rw[hy] at hy';cases hy'
    ·intro h;exact(h x rfl).1
   |some y=>
    simp only[hy,Bool.and_eq_true,decide_eq_true_eq];constructor
    ·intro h z hz;injection hz with hz;subst hz;refine⟨h.1,fun q' y' e hy'=>?_⟩;obtain rfl:q'=q:=(by omega);rw[hy] at hy';injection hy' with hy';subst hy';exact h.2
    ·intro h;exact⟨(h x rfl).1,(h x rfl).2 q y rfl hy⟩
section
variable {l : List Rm} {r q : Nat} {x y : Rm}
theorem tabB_no (hr:l[r]? =some x) (h:¬okAt l r):tabB l=false:=by
 unfold tabB;rw[List.all_eq_false];exact⟨r,List.mem_range.2 (List.getElem?_eq_some_iff.1 hr).1,fun e=>h ((okRB_iff l r).1 e)⟩
theorem tabB_bad (hx:l[r]? =some x) (h:sndR x.u=false):tabB l=false:=tabB_no hx fun hq=>by
 have:=(hq x hx).1;rw[h] at this;cases this
theorem tabB_order (hx:l[r]? =some x) (hy:l[q]? =some y) (e:r=q+1) (h:decide (rOrd y.u x.u<0)=false):tabB l=false:=tabB_no hx fun hq=>by
 have:=(hq x hx).2 q y e hy;rw[decide_eq_true this] at h;cases h
theorem tabB_yes (h:okTo' l l.length):tabB l=true:=by
 unfold tabB;rw[List.all_eq_true];exact fun i hi=>(okRB_iff l i).2 (h i (List.mem_range.1 hi))
theorem okU_zero (l:List Rm):okTo' l 0:=fun _ hi=>absurd hi (Nat.not_lt_zero _)
theorem okU_first (hx:l[0]? =some x) (h:sndR x.u=true):okTo' l (0+1):=fun i hi z hz=>by
 obtain rfl:i=0:=(by omega);rw[hx] at hz;injection hz with hz;subst hz;exact⟨h,fun q y e=>by omega⟩
theorem okU_next (hq:okTo' l r) (hx:l[r]? =some x) (hy:l[q]? =some y) (e:r=q+1) (h:sndR x.u=true) (hb:decide (rOrd y.u x.u<0)=true):okTo' l (r+1):=fun i hi z hz=>by
 by_cases ei:i=r
 ·subst ei;rw[hx] at hz;injection hz with hz;subst hz;refine⟨h,fun q' y' e' hy'=>?_⟩;obtain rfl:q'=q:=(by omega);rw[hy] at hy';injection hy' with hy';subst hy';exact of_decide_eq_true hb
 ·exact hq i (by omega) z hz
end
theorem tabB_srt {l:List Rm} (hs:Srt rOrd (l.map (·.u))) (hu:∀r∈l,sndR r.u=true):tabB l=true:=tabB_yes fun i hi x hx=>by
 refine⟨hu x (List.mem_of_getElem? hx),fun q y e hy=>?_⟩;obtain⟨h1,e1⟩:=List.getElem?_eq_some_iff.1 hx;obtain⟨h2,e2⟩:=List.getElem?_eq_some_iff.1 hy;have:=List.pairwise_iff_getElem.1 hs q i (by simpa using h2) (by simpa using h1) (by omega);simp only[List.getElem_map] at this;rw[e1,e2] at this;exact this
def TbS (w0 : World) (v : Value) (l : List Rm) (wb : Nat) (x : Rm) (W : World) : Prop := RLies v l W ∧ Blk wb (rca x) 88 W ∧ Env w0 W
theorem TbS.below {w0:World} {v:Value} {l:List Rm} {wb:Nat} {x:Rm} {W W':World} (hb:Below W.heap.size W W') (h:TbS w0 v l wb x W):TbS w0 v l wb x W':=⟨h.1.below hb,h.2.1.below hb,h.2.2.below hb⟩
def TrS (w0 : World) (v : Value) (l : List Rm) (W : World) : Prop := RLies v l W ∧ True ∧ EnvB w0 W
theorem TrS.below {w0:World} {v:Value} {l:List Rm} {W W':World} (hb:Below W.heap.size W W') (h:TrS w0 v l W):TrS w0 v l W':=⟨h.1.below hb,trivial,h.2.2.below hb⟩
set_option maxRecDepth 100000 in
set_option maxHeartbeats 2000000 in
theorem table_any (v:Value) (l:List Rm) (hlen:l.length≤100000) (hw:WfRL l) (w:World) (hl:RLies v l w) (ht:Tab w) (hz:0<w.heap.size):Calls Tryz.prog 105 #[v] w fun e w'=>e= .returned (.bool (tabB l))∧Below w.heap.size w w':=by
 obtain⟨p,cap,rfl⟩:=hl.1.form;have HL:=qH (And.intro hl (Env.start ht hz));have HW:=qH hw;clear hl hw ht;(go_enter Tryz.func105,Tryz.ntmps105);(go_wp2_with fail);go_loopg [7] l.length (fun k i wr=>∃r:Nat,r+k=l.length∧i= .int .i64 r∧okTo' l r∧RLies (.slice p l.length cap) l wr∧Env w wr)
 case atStart=>exact⟨0,by omega,rfl,okU_zero l,HL.out.1,HL.out.2⟩
 case round=>
  clear HL;obtain⟨r,hr,rfl,hq,hs,he⟩:=hrel;have HQ:=qH hq;have HS:=qH (And.intro hs he);clear hq hs he;by_cases hlt:r<l.length
  ·have hltI:(r:Int)<(l.length:Int):=(by omega);obtain⟨x,hx⟩:=lt_some hlt;obtain⟨b,o,rfl,hrg⟩:=HS.out.1.1.at hx;have HR:=qH hrg;have HX:=qH hx;clear hrg hx;(go_upto_region 4 with(first|(refine wpList_load_mid rfl 88 _ rfl b (o+r*32) rfl (rcl x) _ HR.out Tryz.underlying88 rfl infoR ?_)|(refine wpList_store_row rfl 88 _ _ rfl wr.heap.size (rca x) rfl rfl 88 _ (heap_alloc_new _ _) (by kernel_rfl) rfl (rca_one _) ?_;rw[World.setRow_alloc_new])));have HS1:=qH (show TbS w (.slice (some ⟨b,o,none⟩) l.length cap) l wr.heap.size x (wr.alloc (.cells (rca x) 88)) from⟨HS.out.1.below (below1 _ _),Blk.new _ _ _,HS.out.2.alloc _⟩);have HC:=qH (fun(W:World) (h:TbS w (.slice (some ⟨b,o,none⟩) l.length cap) l wr.heap.size x W)=>rsound_any x (HW.out.at HX.out) W (h.1.acts HX.out) h.2.2.tab h.2.2.lt);clear HR HS;generalize wr.alloc (.cells (rca x) 88)=W0 at*;cases hsn:sndR x.u
   ·rw[hsn] at HC;have HN:=qH (tabB_bad HX.out hsn);clear hsn;refine wp_region_held_drew (S:=TbS w (.slice (some ⟨b,o,none⟩) l.length cap) l wr.heap.size x) (by kernel_rfl) (TbS.below (Below.refl _ _).drew HS1.out) (fun hS=>?_);clear HS1;generalize W0.drew=W at*;refine sV 0 rfl (fun w hSw=>execRow0 rfl _ rfl hSw.2.1 Tryz.underlying88 rfl infoR) hS ?_;refine sC 1 (fun K hK=>?_);go_simp;refine(HC.out _ hS).mono ?_;rintro e w1 ⟨rfl,hw1⟩;refine hK.out _ _ (TbS.below hw1 hS) (fun hS=>?_);clear hK K hw1;(try simp only[Act.put,sA,sB,sE]);refine sR 2 hS ?_;refine sR 3 hS ?_;refine seqSkip 4 rfl (by kernel_rfl) (by kernel_rfl) (by kernel_rfl) (fun _ _ _ h=>h) rfl hS ?_;(try simp only[Act.put,sA,sB,sE]);refine seqSkip 5 rfl (by kernel_rfl) (by kernel_rfl) (by kernel_rfl) (fun _ _ _ h=>h) rfl hS ?_;(try simp only[Act.put,sA,sB,sE]);refine seqSkip 6 rfl (by kernel_rfl) (by kernel_rfl) (by kernel_rfl) (fun _ _ _ h=>h) rfl hS ?_;(try simp only[Act.put,sA,sB,sE]);refine seqSkip 7 rfl (by kernel_rfl) (by kernel_rfl) (by kernel_rfl) (fun _ _ _ h=>h) rfl hS ?_;(try simp only[Act.put,sA,sB,sE]);refine seqSkip 8 rfl (by kernel_rfl) (by kernel_rfl) (by kernel_rfl) (fun _ _ _ h=>h) rfl hS ?_;(try simp only[Act.put,sA,sB,sE]);refine seqSkip 9 rfl (by kernel_rfl) (by kernel_rfl) (by kernel_rfl) (fun _ _ _ h=>h) rfl hS ?_;(try simp only[Act.put,sA,sB,sE]);refine seqSkip 10 rfl (by kernel_rfl) (by kernel_rfl) (by kernel_rfl) (fun _ _ _ h=>h) rfl hS ?_;(try simp only[Act.put,sA,sB,sE]);refine seqSkip 11 rfl (by kernel_rfl) (by kernel_rfl) (by kernel_rfl) (fun _ _ _ h=>h) rfl hS ?_;(try simp only[Act.put,sA,sB,sE]);refine seqSkip 12 rfl (by kernel_rfl) (by kernel_rfl) (by kernel_rfl) (fun _ _ _ h=>h) rfl hS ?_;(try simp only[Act.put,sA,sB,sE]);refine seqSkip 13 rfl (by kernel_rfl) (by kernel_rfl) (by kernel_rfl) (fun _ _ _ h=>h) rfl hS ?_;(try simp only[Act.put,sA,sB,sE]);refine seqSkip 14 rfl (by kernel_rfl) (by kernel_rfl) (by kernel_rfl) (fun _ _ _ h=>h) rfl hS ?_;(try simp only[Act.put,sA,sB,sE]);refine seqSkip 15 rfl (by kernel_rfl) (by kernel_rfl) (by kernel_rfl) (fun _ _ _ h=>h) rfl hS ?_;(try simp only[Act.put,sA,sB,sE]);refine sR 16 hS ?_;refine sD ?_;have HS2:=qH hS;clear hS;(go_wp2_with fail);go_ret;exact⟨ret_bool HN.out.symm,HS2.out.2.2.kept⟩
   ·rw[hsn] at HC;have HSN:=qH hsn;clear hsn;by_cases h0:r=0
    ·subst h0;have HN:=qH (okU_first HX.out HSN.out);have h0I:¬(0:Int)<((0:Nat):Int):=(by decide);refine wp_region_held_drew (S:=TbS w (.slice (some ⟨b,o,none⟩) l.length cap) l wr.heap.size x) (by kernel_rfl) (TbS.below (Below.refl _ _).drew HS1.out) (fun hS=>?_);clear HS1;generalize W0.drew=W at*;refine sV 0 rfl (fun w hSw=>execRow0 rfl _ rfl hSw.2.1 Tryz.underlying88 rfl infoR) hS ?_;refine sC 1 (fun K hK=>?_);go_simp;refine(HC.out _ hS).mono ?_;rintro e w1 ⟨rfl,hw1⟩;refine hK.out _ _ (TbS.below hw1 hS) (fun hS=>?_);clear hK K hw1;(try simp only[Act.put,sA,sB,sE]);refine sR 2 hS ?_;refine sR 3 hS ?_;refine sR 4 hS ?_;refine sR 5 hS ?_;refine sR 6 hS ?_;refine seqSkip 7 rfl (by kernel_rfl) (by kernel_rfl) (by kernel_rfl) (fun _ _ _ h=>h) rfl hS ?_;(try simp only[Act.put,sA,sB,sE]);refine seqSkip 8 rfl (by kernel_rfl) (by kernel_rfl) (by kernel_rfl) (fun _ _ _ h=>h) rfl hS ?_;(try simp only[Act.put,sA,sB,sE]);refine seqSkip 9 rfl (by kernel_rfl) (by kernel_rfl) (by kernel_rfl) (fun _ _ _ h=>h) rfl hS ?_;(try simp only[Act.put,sA,sB,sE]);refine seqSkip 10 rfl (by kernel_rfl) (by kernel_rfl) (by kernel_rfl) (fun _ _ _ h=>h) rfl hS ?_;(try simp only[Act.put,sA,sB,sE]);refine seqSkip 11 rfl (by kernel_rfl) (by kernel_rfl) (by kernel_rfl) (fun _ _ _ h=>h) rfl hS ?_;(try simp only[Act.put,sA,sB,sE]);refine seqSkip 12 rfl (by kernel_rfl) (by kernel_rfl) (by kernel_rfl) (fun _ _ _ h=>h) rfl hS ?_;(try simp only[Act.put,sA,sB,sE]);refine seqSkip 13 rfl (by kernel_rfl) (by kernel_rfl) (by kernel_rfl) (fun _ _ _ h=>h) rfl hS ?_;(try simp only[Act.put,sA,sB,sE]);refine seqSkip 14 rfl (by kernel_rfl) (by kernel_rfl) (by kernel_rfl) (fun _ _ _ h=>h) rfl hS ?_;(try simp only[Act.put,sA,sB,sE]);refine sR 15 hS ?_;refine sR 16 hS ?_;refine sD ?_;have HS2:=qH hS;clear hS;(go_wp2_with fail);go_roundg (l.length - (0+1))
     case measure=>omega
     case rel=>exact⟨0+1,by omega,by go_num,HN.out,HS2.out.1,HS2.out.2.2⟩
    ·obtain⟨q,hq⟩:∃q,r=q+1:=⟨r - 1,by omega⟩;have h0I:(0:Int)<(r:Int):=(by omega);have h0N:0<r:=(by omega);have hsub:(r:Int) - 1=(q:Int):=(by omega);have hwr:IntKind.i64.wrap (q:Int)=(q:Int):=(by rw[IntKind.wrap_i64];omega);have hqI:(q:Int)<(l.length:Int):=(by omega);obtain⟨y,hy⟩:=lt_some (show q<l.length by omega);have HYY:=qH hy;have HB:=qH (fun(W:World)=>before_any y x W);have HQ2:=qH hq;clear hy hq h0;cases hbf:decide (rOrd y.u x.u<0)
     ·rw[hbf] at HB;have HN:=qH (tabB_order HX.out HYY.out HQ2.out hbf);clear hbf;refine wp_region_held_drew (S:=TbS w (.slice (some ⟨b,o,none⟩) l.length cap) l wr.heap.size x) (by kernel_rfl) (TbS.below (Below.refl _ _).drew HS1.out) (fun hS=>?_);clear HS1;generalize W0.drew=W at*;refine sV 0 rfl (fun w hSw=>execRow0 rfl _ rfl hSw.2.1 Tryz.underlying88 rfl infoR) hS ?_;refine sC 1 (fun K hK=>?_);go_simp;refine(HC.out _ hS).mono ?_;rintro e w1 ⟨rfl,hw1⟩;refine hK.out _ _ (TbS.below hw1 hS) (fun hS=>?_);clear hK K hw1;(try simp only[Act.put,sA,sB,sE]);refine sR 2 hS ?_;refine sR 3 hS ?_;refine sR 4 hS ?_;refine sR 5 hS ?_;refine sR 6 hS ?_;refine sR 7 hS ?_;refine sR 8 hS ?_;refine sR 9 hS ?_;refine sR 10 hS ?_;refine sV 11 rfl (fun w hSw=>execRow rfl b (o+q*32) rfl (rcl y) _ (hSw.1.1.at' HYY.out) Tryz.underlying88 rfl infoR) hS ?_;refine sV 12 rfl (fun w hSw=>execRow0 rfl _ rfl hSw.2.1 Tryz.underlying88 rfl infoR) hS ?_;refine sC 13 (fun K hK=>?_);go_simp;refine(HB.out _).mono ?_;rintro e w1 ⟨rfl,hw1⟩;refine hK.out _ _ (TbS.below hw1 hS) (fun hS=>?_);clear hK K hw1;(try simp only[Act.put,sA,sB,sE]);refine sR 14 hS ?_;refine sR 15 hS ?_;refine sR 16 hS ?_;refine sD ?_;have HS2:=qH hS;clear hS;(go_wp2_with fail);go_ret;exact⟨ret_bool HN.out.symm,HS2.out.2.2.kept⟩
     ·rw[hbf] at HB;have HN:=qH (okU_next HQ.out HX.out HYY.out HQ2.out HSN.out hbf);clear hbf;refine wp_region_held_drew (S:=TbS w (.slice (some ⟨b,o,none⟩) l.length cap) l wr.heap.size x) (by kernel_rfl) (TbS.below (Below.refl _ _).drew HS1.out) (fun hS=>?_);clear HS1;generalize W0.drew=W at*;refine sV 0 rfl (fun w hSw=>execRow0 rfl _ rfl hSw.2.1 Tryz.underlying88 rfl infoR) hS ?_;refine sC 1 (fun K hK=>?_);go_simp;refine(HC.out _ hS).mono ?_;rintro e w1 ⟨rfl,hw1⟩;refine hK.out _ _ (TbS.below hw1 hS) (fun hS=>?_);clear hK K hw1;(try simp only[Act.put,sA,sB,sE]);refine sR 2 hS ?_;refine sR 3 hS ?_;refine sR 4 hS ?_;refine sR 5 hS ?_;refine sR 6 hS ?_;refine sR 7 hS ?_;refine sR 8 hS ?_;refine sR 9 hS ?_;refine sR 10 hS ?_;refine sV 11 rfl (fun w hSw=>execRow rfl b (o+q*32) rfl (rcl y) _ (hSw.1.1.at' HYY.out) Tryz.underlying88 rfl infoR) hS ?_;refine sV 12 rfl (fun w hSw=>execRow0 rfl _ rfl hSw.2.1 Tryz.underlying88 rfl infoR) hS ?_;refine sC 13 (fun K hK=>?_);go_simp;refine(HB.out _).mono ?_;rintro e w1 ⟨rfl,hw1⟩;refine hK.out _ _ (TbS.below hw1 hS) (fun hS=>?_);clear hK K hw1;(try simp only[Act.put,sA,sB,sE]);refine sR 14 hS ?_;refine sR 15 hS ?_;refine sR 16 hS ?_;refine sD ?_;have HS2:=qH hS;clear hS;(go_wp2_with fail);go_roundg (l.length - (r+1))
      case measure=>omega
      case rel=>exact⟨r+1,by omega,by go_num,HN.out,HS2.out.1,HS2.out.2.2⟩
  ·have hltI:¬(r:Int)<(l.length:Int):=(by omega);obtain rfl:r=l.length:=(by omega);have HN:=qH (tabB_yes HQ.out);(go_wp2_with fail);go_ret;exact⟨ret_bool HN.out.symm,HS.out.2.kept⟩
set_option maxRecDepth 100000 in
set_option maxHeartbeats 2000000 in
theorem rtable_b (v:Value) (l:List Rm) (hlen:l.length≤100000) (hw:WfRL l) (w:World) (hl:RLies v l w):Calls Tryz.prog 22 #[v] w fun e w'=>e= .returned (.bool (tabB l))∧Below w.heap.size w w':=by
 obtain⟨p,cap,rfl⟩:=hl.1.form;have HL:=qH (And.intro hl (EnvB.start w));have HW:=qH hw;clear hl hw;(go_enter Tryz.func22,Tryz.ntmps22);(go_wp2_with fail);go_loopg [3] l.length (fun k i wr=>∃r:Nat,r+k=l.length∧i= .int .i64 r∧okTo' l r∧RLies (.slice p l.length cap) l wr∧EnvB w wr)
 case atStart=>exact⟨0,by omega,rfl,okU_zero l,HL.out.1,HL.out.2⟩
 case round=>
  clear HL;obtain⟨r,hr,rfl,hq,hs,he⟩:=hrel;have HQ:=qH hq;have HS:=qH (And.intro hs he);clear hq hs he;by_cases hlt:r<l.length
  ·have hltI:(r:Int)<(l.length:Int):=(by omega);obtain⟨x,hx⟩:=lt_some hlt;obtain⟨b,o,rfl,_⟩:=HS.out.1.1.at hx;have HX:=qH hx;clear hx;have HS1:=qH (show TrS w (.slice (some ⟨b,o,none⟩) l.length cap) l wr from⟨HS.out.1,trivial,HS.out.2⟩);have HC:=qH (fun(W:World) (h:TrS w (.slice (some ⟨b,o,none⟩) l.length cap) l W)=>rrule_b x (HW.out.at HX.out) W (h.1.acts HX.out));clear HS;cases hsn:sndR x.u
   ·rw[hsn] at HC;have HN:=qH (tabB_bad HX.out hsn);clear hsn;(go_upto_region 4 with fail);refine wp_region_held_drew (S:=TrS w (.slice (some ⟨b,o,none⟩) l.length cap) l) (by kernel_rfl) (TrS.below (Below.refl _ _).drew HS1.out) (fun hS=>?_);clear HS1;generalize wr.drew=W at*;refine sR 0 hS ?_;refine sR 1 hS ?_;refine sR 2 hS ?_;refine sV 3 rfl (fun w hSw=>execRow rfl b (o+r*32) rfl (rcl x) _ (hSw.1.1.at' HX.out) Tryz.underlying88 rfl infoR) hS ?_;refine sC 4 (fun K hK=>?_);go_simp;refine(HC.out _ hS).mono ?_;rintro e w1 ⟨rfl,hw1⟩;refine hK.out _ _ (TrS.below hw1 hS) (fun hS=>?_);clear hK K hw1;(try simp only[Act.put,sA,sB,sE]);refine sR 5 hS ?_;refine sR 6 hS ?_;refine seqSkip 7 rfl (by kernel_rfl) (by kernel_rfl) (by kernel_rfl) (fun _ _ _ h=>h) rfl hS ?_;(try simp only[Act.put,sA,sB,sE]);refine seqSkip 8 rfl (by kernel_rfl) (by kernel_rfl) (by kernel_rfl) (fun _ _ _ h=>h) rfl hS ?_;(try simp only[Act.put,sA,sB,sE]);refine seqSkip 9 rfl (by kernel_rfl) (by kernel_rfl) (by kernel_rfl) (fun _ _ _ h=>h) rfl hS ?_;(try simp only[Act.put,sA,sB,sE]);refine seqSkip 10 rfl (by kernel_rfl) (by kernel_rfl) (by kernel_rfl) (fun _ _ _ h=>h) rfl hS ?_;(try simp only[Act.put,sA,sB,sE]);refine seqSkip 11 rfl (by kernel_rfl) (by kernel_rfl) (by kernel_rfl) (fun _ _ _ h=>h) rfl hS ?_;(try simp only[Act.put,sA,sB,sE]);refine seqSkip 12 rfl (by kernel_rfl) (by kernel_rfl) (by kernel_rfl) (fun _ _ _ h=>h) rfl hS ?_;(try simp only[Act.put,sA,sB,sE]);refine seqSkip 13 rfl (by kernel_rfl) (by kernel_rfl) (by kernel_rfl) (fun _ _ _ h=>h) rfl hS ?_;(try simp only[Act.put,sA,sB,sE]);refine seqSkip 14 rfl (by kernel_rfl) (by kernel_rfl) (by kernel_rfl) (fun _ _ _ h=>h) rfl hS ?_;(try simp only[Act.put,sA,sB,sE]);refine seqSkip 15 rfl (by kernel_rfl) (by kernel_rfl) (by kernel_rfl) (fun _ _ _ h=>h) rfl hS ?_;(try simp only[Act.put,sA,sB,sE]);refine seqSkip 16 rfl (by kernel_rfl) (by kernel_rfl) (by kernel_rfl) (fun _ _ _ h=>h) rfl hS ?_;(try simp only[Act.put,sA,sB,sE]);refine seqSkip 17 rfl (by kernel_rfl) (by kernel_rfl) (by kernel_rfl) (fun _ _ _ h=>h) rfl hS ?_;(try simp only[Act.put,sA,sB,sE]);refine seqSkip 18 rfl (by kernel_rfl) (by kernel_rfl) (by kernel_rfl) (fun _ _ _ h=>h) rfl hS ?_;(try simp only[Act.put,sA,sB,sE]);refine seqSkip 19 rfl (by kernel_rfl) (by kernel_rfl) (by kernel_rfl) (fun _ _ _ h=>h) rfl hS ?_;(try simp only[Act.put,sA,sB,sE]);refine seqSkip 20 rfl (by kernel_rfl) (by kernel_rfl) (by kernel_rfl) (fun _ _ _ h=>h) rfl hS ?_;(try simp only[Act.put,sA,sB,sE]);refine seqSkip 21 rfl (by kernel_rfl) (by kernel_rfl) (by kernel_rfl) (fun _ _ _ h=>h) rfl hS ?_;(try simp only[Act.put,sA,sB,sE]);refine sR 22 hS ?_;refine sD ?_;have HS2:=qH hS;clear hS;(go_wp2_with fail);go_ret;exact⟨ret_bool HN.out.symm,HS2.out.2.2.kept⟩
   ·rw[hsn] at HC;have HSN:=qH hsn;clear hsn;by_cases h0:r=0
    ·subst h0;have HN:=qH (okU_first HX.out HSN.out);have h0I:¬(0:Int)<((0:Nat):Int):=(by decide);(go_upto_region 4 with fail);refine wp_region_held_drew (S:=TrS w (.slice (some ⟨b,o,none⟩) l.length cap) l) (by kernel_rfl) (TrS.below (Below.refl _ _).drew HS1.out) (fun hS=>?_);clear HS1;generalize wr.drew=W at*;refine sR 0 hS ?_;refine sR 1 hS ?_;refine sR 2 hS ?_;refine sV 3 rfl (fun w hSw=>execRow rfl b (o+0*32) rfl (rcl x) _ (hSw.1.1.at' HX.out) Tryz.underlying88 rfl infoR) hS ?_;refine sC 4 (fun K hK=>?_);go_simp;refine(HC.out _ hS).mono ?_;rintro e w1 ⟨rfl,hw1⟩;refine hK.out _ _ (TrS.below hw1 hS) (fun hS=>?_);clear hK K hw1;(try simp only[Act.put,sA,sB,sE]);refine sR 5 hS ?_;refine sR 6 hS ?_;refine sR 7 hS ?_;refine sR 8 hS ?_;refine sR 9 hS ?_;refine seqSkip 10 rfl (by kernel_rfl) (by kernel_rfl) (by kernel_rfl) (fun _ _ _ h=>h) rfl hS ?_;(try simp only[Act.put,sA,sB,sE]);refine seqSkip 11 rfl (by kernel_rfl) (by kernel_rfl) (by kernel_rfl) (fun _ _ _ h=>h) rfl hS ?_;(try simp only[Act.put,sA,sB,sE]);refine seqSkip 12 rfl (by kernel_rfl) (by kernel_rfl) (by kernel_rfl) (fun _ _ _ h=>h) rfl hS ?_;(try simp only[Act.put,sA,sB,sE]);refine seqSkip 13 rfl (by kernel_rfl) (by kernel_rfl) (by kernel_rfl) (fun _ _ _ h=>h) rfl hS ?_;(try simp only[Act.put,sA,sB,sE]);refine seqSkip 14 rfl (by kernel_rfl) (by kernel_rfl) (by kernel_rfl) (fun _ _ _ h=>h) rfl hS ?_;(try simp only[Act.put,sA,sB,sE]);refine seqSkip 15 rfl (by kernel_rfl) (by kernel_rfl) (by kernel_rfl) (fun _ _ _ h=>h) rfl hS ?_;(try simp only[Act.put,sA,sB,sE]);refine seqSkip 16 rfl (by kernel_rfl) (by kernel_rfl) (by kernel_rfl) (fun _ _ _ h=>h) rfl hS ?_;(try simp only[Act.put,sA,sB,sE]);refine seqSkip 17 rfl (by kernel_rfl) (by kernel_rfl) (by kernel_rfl) (fun _ _ _ h=>h) rfl hS ?_;(try simp only[Act.put,sA,sB,sE]);refine seqSkip 18 rfl (by kernel_rfl) (by kernel_rfl) (by kernel_rfl) (fun _ _ _ h=>h) rfl hS ?_;(try simp only[Act.put,sA,sB,sE]);refine seqSkip 19 rfl (by kernel_rfl) (by kernel_rfl) (by kernel_rfl) (fun _ _ _ h=>h) rfl hS ?_;(try simp only[Act.put,sA,sB,sE]);refine seqSkip 20 rfl (by kernel_rfl) (by kernel_rfl) (by kernel_rfl) (fun _ _ _ h=>h) rfl hS ?_;(try simp only[Act.put,sA,sB,sE]);refine sR 21 hS ?_;refine sR 22 hS ?_;refine sD ?_;have HS2:=qH hS;clear hS;(go_wp2_with fail);go_roundg (l.length - (0+1))
     case measure=>omega
     case rel=>exact⟨0+1,by omega,by go_num,HN.out,HS2.out.1,HS2.out.2.2⟩
    ·obtain⟨q,hq⟩:∃q,r=q+1:=⟨r - 1,by omega⟩;have h0I:(0:Int)<(r:Int):=(by omega);have h0N:0<r:=(by omega);have hsub:(r:Int) - 1=(q:Int):=(by omega);have hwr:IntKind.i64.wrap (q:Int)=(q:Int):=(by rw[IntKind.wrap_i64];omega);have hqI:(q:Int)<(l.length:Int):=(by omega);obtain⟨y,hy⟩:=lt_some (show q<l.length by omega);have HYY:=qH hy;have HB:=qH (fun(W:World)=>rbefore_any y x W);have HQ2:=qH hq;clear hy hq h0;cases hbf:decide (rOrd y.u x.u<0)
     ·rw[hbf] at HB;have HN:=qH (tabB_order HX.out HYY.out HQ2.out hbf);clear hbf;(go_upto_region 4 with fail);refine wp_region_held_drew (S:=TrS w (.slice (some ⟨b,o,none⟩) l.length cap) l) (by kernel_rfl) (TrS.below (Below.refl _ _).drew HS1.out) (fun hS=>?_);clear HS1;generalize wr.drew=W at*;refine sR 0 hS ?_;refine sR 1 hS ?_;refine sR 2 hS ?_;refine sV 3 rfl (fun w hSw=>execRow rfl b (o+r*32) rfl (rcl x) _ (hSw.1.1.at' HX.out) Tryz.underlying88 rfl infoR) hS ?_;refine sC 4 (fun K hK=>?_);go_simp;refine(HC.out _ hS).mono ?_;rintro e w1 ⟨rfl,hw1⟩;refine hK.out _ _ (TrS.below hw1 hS) (fun hS=>?_);clear hK K hw1;(try simp only[Act.put,sA,sB,sE]);refine sR 5 hS ?_;refine sR 6 hS ?_;refine sR 7 hS ?_;refine sR 8 hS ?_;refine sR 9 hS ?_;refine sR 10 hS ?_;refine sR 11 hS ?_;refine sR 12 hS ?_;refine sR 13 hS ?_;refine sV 14 rfl (fun w hSw=>execRow rfl b (o+q*32) rfl (rcl y) _ (hSw.1.1.at' HYY.out) Tryz.underlying88 rfl infoR) hS ?_;refine sR 15 hS ?_;refine sR 16 hS ?_;refine sR 17 hS ?_;refine sV 18 rfl (fun w hSw=>execRow rfl b (o+r*32) rfl (rcl x) _ (hSw.1.1.at' HX.out) Tryz.underlying88 rfl infoR) hS ?_;refine sC 19 (fun K hK=>?_);go_simp;refine(HB.out _).mono ?_;rintro e w1 ⟨rfl,hw1⟩;refine hK.out _ _ (TrS.below hw1 hS) (fun hS=>?_);clear hK K hw1;(try simp only[Act.put,sA,sB,sE]);refine sR 20 hS ?_;refine sR 21 hS ?_;refine sR 22 hS ?_;refine sD ?_;have HS2:=qH hS;clear hS;(go_wp2_with fail);go_ret;exact⟨ret_bool HN.out.symm,HS2.out.2.2.kept⟩
     ·rw[hbf] at HB;have HN:=qH (okU_next HQ.out HX.out HYY.out HQ2.out HSN.out hbf);clear hbf;(go_upto_region 4 with fail);refine wp_region_held_drew (S:=TrS w (.slice (some ⟨b,o,none⟩) l.length cap) l) (by kernel_rfl) (TrS.below (Below.refl _ _).drew HS1.out) (fun hS=>?_);clear HS1;generalize wr.drew=W at*;refine sR 0 hS ?_;refine sR 1 hS ?_;refine sR 2 hS ?_;refine sV 3 rfl (fun w hSw=>execRow rfl b (o+r*32) rfl (rcl x) _ (hSw.1.1.at' HX.out) Tryz.underlying88 rfl infoR) hS ?_;refine sC 4 (fun K hK=>?_);go_simp;refine(HC.out _ hS).mono ?_;rintro e w1 ⟨rfl,hw1⟩;refine hK.out _ _ (TrS.below hw1 hS) (fun hS=>?_);clear hK K hw1;(try simp only[Act.put,sA,sB,sE]);refine sR 5 hS ?_;refine sR 6 hS ?_;refine sR 7 hS ?_;refine sR 8 hS ?_;refine sR 9 hS ?_;refine sR 10 hS ?_;refine sR 11 hS ?_;refine sR 12 hS ?_;refine sR 13 hS ?_;refine sV 14 rfl (fun w hSw=>execRow rfl b (o+q*32) rfl (rcl y) _ (hSw.1.1.at' HYY.out) Tryz.underlying88 rfl infoR) hS ?_;refine sR 15 hS ?_;refine sR 16 hS ?_;refine sR 17 hS ?_;refine sV 18 rfl (fun w hSw=>execRow rfl b (o+r*32) rfl (rcl x) _ (hSw.1.1.at' HX.out) Tryz.underlying88 rfl infoR) hS ?_;refine sC 19 (fun K hK=>?_);go_simp;refine(HB.out _).mono ?_;rintro e w1 ⟨rfl,hw1⟩;refine hK.out _ _ (TrS.below hw1 hS) (fun hS=>?_);clear hK K hw1;(try simp only[Act.put,sA,sB,sE]);refine sR 20 hS ?_;refine sR 21 hS ?_;refine sR 22 hS ?_;refine sD ?_;have HS2:=qH hS;clear hS;(go_wp2_with fail);go_roundg (l.length - (r+1))
      case measure=>omega
      case rel=>exact⟨r+1,by omega,by go_num,HN.out,HS2.out.1,HS2.out.2.2⟩
  ·have hltI:¬(r:Int)<(l.length:Int):=(by omega);obtain rfl:r=l.length:=(by omega);have HN:=qH (tabB_yes HQ.out);(go_wp2_with fail);go_ret;exact⟨ret_bool HN.out.symm,HS.out.2.kept⟩
end Go.Proofs.YtomnpfbebimpkaaGreatDoor
