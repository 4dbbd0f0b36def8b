/-
  The walk of Hit of the reference.
-/
import Derived.Test.YtomnpfbebimpkaaGreatDoorLapHit
import Derived.Test.YtomnpfbebimpkaaGreatDoorSq
namespace Go.Proofs.YtomnpfbebimpkaaGreatDoor
set_option maxRecDepth 20000
open Go.RowKit
def RHitOwn (w : World) (l : List Rm) (us : List Ru) (e : Ending) (w' : World) : Prop := ∃ v L, e = .returned v ∧ L.map (·.u) = us ∧ KOwns KR w.heap.size v L w' ∧ (∀ r ∈ L, FromL l r) ∧ Below w.heap.size w w'
theorem KAt.thereAt {g n:Nat} {W:World} {L:List Rm} (h:KAt KR g n L W) {i m:Nat} (hi:i<L.length) (hm:m<32):W.there g (i*32+m) 1:=fun t ht=>by
 have:=h.there (i:=i) (by have:=h.1;omega) (m+t) (by show m+t<32;omega);rwa [show i*KR.n+(m+t)=i*32+m+t by show i*32+(m+t)=_;omega] at this
set_option maxHeartbeats 1000000 in
theorem rhit_own (v:Value) (l:List Rm) (hlen:l.length≤100000) (hw:WfRL l) (n:Int) (w:World) (hl:RLies v l w):Calls Tryz.prog 64 #[v,.int .i64 n] w (RHitOwn w l (hitL n (l.map (·.u)))):=by
 obtain⟨p,cap,rfl⟩:=hl.1.form;have HK:=qH (hl.1.below okR (below1 w (.cells #[] KR.T)));have HI:=qH (show ∀r∈l,FromL l r from fun r hr _ h=>h r hr);have HW:=qH hw;clear hl hw;(go_enter Tryz.func64,Tryz.ntmps64);(go_upto_region 2 with(first|(refine kbuildNone KR okR rfl rfl ?_)|(refine kappend KR okR rfl (.tmp 6) (.tmp 7) rfl w.heap.size _ [] l rfl (KOwns.built w _ (Nat.le_refl _)) _ rfl HK.out (by simp) (by simp;omega) (fun v1 w1 ho hg=>?_);refine Hid.out ?_)));have HB:=qH (kbelowOwn (below1 w (.cells #[] KR.T)) (KOwns.built (K:=KR) w w.heap.size (Nat.le_refl _)) (Nat.le_refl _) hg);have ho':KOwns KR w.heap.size v1 l w1:=ho;have HO:=qH ho';clear ho ho' hg HK;by_cases h0:n<0
 ·have HN:=qH (hitL_no (us:=l.map (·.u)) (i:=n) (.inl h0));have h0':¬0≤n:=(by omega);refine qH ?_;(go_wp2_with fail);go_ret;exact⟨v1,l,rfl,HN.out.symm,HO.out,HI.out,HB.out⟩
 ·obtain⟨i,rfl⟩:∃i:Nat,n=(i:Int):=⟨n.toNat,by omega⟩;by_cases hlt:i<l.length
  ·obtain⟨x,hx⟩:=lt_some hlt;have hltI:(i:Int)<(l.length:Int):=(by omega);have h0':(0:Int)≤(i:Int):=(by omega);rcases HO.out.kat okR with⟨_,rfl⟩|⟨g,c,rfl,hge,hA⟩
   ·exact absurd hlt (Nat.not_lt_zero _)
   have HX:=qH hx;have HWx:=qH (HW.out.at hx);have k29:w1.cell? ⟨g,i*32+29,none⟩=some (.int .i64 x.u.hits):=(cellsR_mid (hA.range hx)).hits;have P1:=qH (rmore_any x.u.hits 1 HWx.out.nums.2.2.2.2.1 (by decide) (by decide) w1);have HT:=qH (hA.thereAt hlt (m:=29) (by decide));have HS2:=qH (hA.cell okR hx (a':=⟨{ x.u with hits:=moreI x.u.hits 1},x.q,x.n,x.c⟩) (.int .i64 (moreI x.u.hits 1)) (m:=29) (by decide) (rcl_hits x _));have HB2:=qH (HB.out.setCell hge (.int .i64 (moreI x.u.hits 1)) (p:=⟨g,i*32+29,none⟩));clear hx hA HO HB;refine qH ?_;(go_upto_region 4 with(first|(go_at_call 90;refine P1.out.mono ?_;rintro e w1 ⟨rfl,rfl⟩)|(refine storeCell rfl 3 _ _ rfl g (i*32+29) (.int .i64 (moreI x.u.hits 1)) rfl rfl rfl HT.out infoInt ?_;refine Hid.out ?_)));clear k29 P1 HT;have hS2:KAt KR g c (l.set i ⟨{ x.u with hits:=moreI x.u.hits 1},x.q,x.n,x.c⟩) (w1.setCell ⟨g,i*32+29,none⟩ (.int .i64 (moreI x.u.hits 1))):=HS2.out;have hx2:(l.set i ⟨{ x.u with hits:=moreI x.u.hits 1},x.q,x.n,x.c⟩)[i]? =some ⟨{ x.u with hits:=moreI x.u.hits 1},x.q,x.n,x.c⟩:=(by simp[hlt]);have HT2:=qH (hS2.thereAt (i:=i) (by simpa using hlt) (m:=30) (by decide));have hS3:=hS2.cell okR hx2 (a':=⟨hitU x.u,x.q,x.n,x.c⟩) (.int .i64 0) (m:=30) (by decide) (rcl_quiet ⟨{ x.u with hits:=moreI x.u.hits 1},x.q,x.n,x.c⟩ 0);rw[List.set_set] at hS3;have HS3:=qH (show KAt KR g c (l.set i ⟨hitU x.u,x.q,x.n,x.c⟩) ((w1.setCell ⟨g,i*32+29,none⟩ (.int .i64 (moreI x.u.hits 1))).setCell ⟨g,i*32+30,none⟩ (.int .i64 0)) from hS3);have HB3:=qH (HB2.out.setCell hge (.int .i64 0) (p:=⟨g,i*32+30,none⟩));clear hx2 HS2 hS2 hS3 HB2;generalize w1.setCell ⟨g,i*32+29,none⟩ (.int .i64 (moreI x.u.hits 1))=W2 at*;refine qH ?_;(go_upto_region 5 with(refine storeCell rfl 3 _ _ rfl g (i*32+30) (.int .i64 0) rfl rfl rfl HT2.out infoInt ?_;refine Hid.out ?_));clear HT2;generalize W2.setCell ⟨g,i*32+30,none⟩ (.int .i64 0)=W3 at*;have HLN:=qH (show(l.set i ⟨hitU x.u,x.q,x.n,x.c⟩).length=l.length by simp);refine qH ?_;(go_wp2_with fail);go_ret;refine⟨.slice (some ⟨g,0,none⟩) l.length c,l.set i ⟨hitU x.u,x.q,x.n,x.c⟩,rfl,?_,?_,fun r hr=>?_,HB3.out⟩
   ·rw[map_set_u];exact(hitL_at (by rw[List.getElem?_map,HX.out];rfl)).symm
   ·have:=KAt.owns okR HS3.out hge;rw[HLN.out] at this;exact this
   ·rcases List.mem_or_eq_of_mem_set hr with hr|rfl
    ·exact HI.out r hr
    ·exact fun W h=>h x (List.mem_of_getElem? HX.out)
  ·have HN:=qH (hitL_no (us:=l.map (·.u)) (i:=(i:Int)) (.inr (by rw[List.length_map];omega)));have hltI:¬(i:Int)<(l.length:Int):=(by omega);have h0':(0:Int)≤(i:Int):=(by omega);refine qH ?_;(go_wp2_with fail);go_ret;exact⟨v1,l,rfl,HN.out.symm,HO.out,HI.out,HB.out⟩
end Go.Proofs.YtomnpfbebimpkaaGreatDoor
