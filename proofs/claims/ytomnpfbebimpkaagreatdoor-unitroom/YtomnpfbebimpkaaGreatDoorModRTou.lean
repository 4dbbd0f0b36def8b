/-
  The reference's Touched and Ints.
-/
import Derived.Test.YtomnpfbebimpkaaGreatDoorModLaw
import Derived.Test.YtomnpfbebimpkaaGreatDoorSq
namespace Go.Proofs.YtomnpfbebimpkaaGreatDoor
set_option maxRecDepth 20000
open Go.RowKit
section
variable {m : Mm} {x : Rm}
theorem tcs_own (h:x.u.owner≠m.u.owner):tcS m x=false:=by unfold tcS tchB;rw[eq_false0 h];simp
theorem tcs_in (hk:m.u.kind=2∨m.u.kind=3) (h:x.u.owner=m.u.owner):tcS m x=(sndM m.u&&inB x.u.m m.u.m):=by unfold tcS tchB;rw[eq_true0 h,if_pos hk,Bool.true_and]
theorem tcs_it (hk:m.u.kind=4∨m.u.kind=5) (h:x.u.owner=m.u.owner):tcS m x=(sndM m.u&&(cEq x.u.m m.u.m&&(x.u.p==m.u.p))):=by unfold tcS tchB;rw[eq_true0 h,if_neg (by omega),if_pos hk,Bool.true_and]
theorem tcs_no (h1:¬(m.u.kind=2∨m.u.kind=3)) (h2:¬(m.u.kind=4∨m.u.kind=5)):tcS m x=false:=by unfold tcS tchB;rw[if_neg h1,if_neg h2];simp
end
def ToS (w : World) (v : Value) (l : List Rm) (m : Mm) (W : World) : Prop := KLies KR v l W ∧ InM m W ∧ Blk w.heap.size (mca m) 40 W ∧ Below w.heap.size w W
theorem ToS.below {w:World} {v:Value} {l:List Rm} {m:Mm} {W W':World} (hb:Below W.heap.size W W') (h:ToS w v l m W):ToS w v l m W':=⟨h.1.below okR hb,h.2.1.below hb,h.2.2.1.below hb,h.2.2.2.trans (hb.mono h.2.2.2.size)⟩
def ToP (w w1 : World) (v : Value) (l : List Rm) (m : Mm) (W : World) : Prop := Below w1.heap.size w1 W ∧ ToS w v l m W
theorem ToP.below {w w1:World} {v:Value} {l:List Rm} {m:Mm} {W W':World} (hb:Below W.heap.size W W') (h:ToP w w1 v l m W):ToP w w1 v l m W':=⟨h.1.trans (hb.mono h.1.size),ToS.below hb h.2⟩
theorem ToP.own {w w1:World} {v:Value} {l:List Rm} {m:Mm} {W W':World} {vo:Value} {k:List Nat} (h1:ToS w v l m w1) (ho:KOwns KI w1.heap.size vo k W) (hg:W.grownBy W' vo.ownBlock) (h:ToP w w1 v l m W):ToP w w1 v l m W':=have hb:=kbelowOwn h.1 ho (Nat.le_refl _) hg;⟨hb,ToS.below hb h1⟩
theorem kinds_of (k:Int):k=2∨k=3∨k=4∨k=5∨(k≠2∧k≠3∧k≠4∧k≠5):=by omega
set_option maxHeartbeats 8000000 in
theorem rtouched_any (v:Value) (l:List Rm) (hlen:l.length≤100000) (hwl:WfRL l) (m:Mm) (hw:WfM m.u) (w:World) (hl:KLies KR v l w) (ha:InM m w):Calls Tryz.prog 56 #[v,.agg (mca m)] w (TouRet (tcS m) l w):=by
 obtain⟨p,cap,rfl⟩:=hl.form;have HS:=qH (show ToS w (.slice p l.length cap) l m (w.alloc (.cells (mca m) 40)) from⟨hl.below okR (below1 _ _),ha.below (below1 _ _),Blk.new _ _ _,below1 _ _⟩);have HWL:=qH hwl;have HW:=qH hw;have HMo:=qH (fun(W:World) (hS:ToS w (.slice p l.length cap) l m W)=>rmod_any m hw W hS.2.1);clear ha hw hl hwl;(go_enter Tryz.func56,Tryz.ntmps56);(go_wp2_with fail);have HZ:=qH (show w.heap.size≤(w.alloc (.cells (mca m) 40)).heap.size from(below1 w (.cells (mca m) 40)).size);generalize w.alloc (.cells (mca m) 40)=w1 at*;go_loopg [5,6] l.length (fun k s5 s6 wr=>∃r:Nat,r+k=l.length∧s6= .int .i64 r∧KOwns KI w1.heap.size s5 (hits (tcS m) l r) wr∧ToP w w1 (.slice p l.length cap) l m wr)
 case atStart=>exact⟨0,by omega,rfl,KOwns.nil _ _,Below.refl _ _,HS.out⟩
 case round=>
  obtain⟨r,hr,rfl,ho,hs⟩:=hrel;have HO:=qH ho;have HT:=qH hs;clear ho hs;by_cases hlt:r<l.length;rotate_left
  ·have hltI:¬(r:Int)<(l.length:Int):=(by omega);have hr':r=l.length:=(by omega);have HTl:=qH hr';(go_wp2_with fail);go_ret;refine⟨_,rfl,?_,HT.out.2.2.2.2⟩;rw[←HTl.out];exact HO.out.mono HZ.out
  have hltI:(r:Int)<(l.length:Int):=(by omega);obtain⟨x,hx⟩:=lt_some hlt;obtain⟨b,o,rfl,hrg⟩:=HT.out.2.1.at hx;have HR:=qH hrg;have HX:=qH hx;have HWx:=qH (HWL.out.at hx);clear hrg hx;(go_upto_region 6 with(first|(refine wpList_load_mid rfl 88 _ rfl b (o+r*32) rfl (rcl x) _ HR.out Tryz.underlying88 rfl infoR ?_)|(refine wpList_store_row rfl 88 _ _ rfl wr.heap.size (rca x) rfl rfl 88 _ (heap_alloc_new _ _) (by kernel_rfl) rfl (rca_one _) ?_;rw[World.setRow_alloc_new])));have RX:=qH (Blk.new wr (rca x) 88);have HO1:=qH (HO.out.below (below1 wr (.cells (rca x) 88)));have HT1:=qH (ToP.below (below1 wr (.cells (rca x) 88)) HT.out);clear HR HO HT;generalize wr.alloc (.cells (rca x) 88)=W at*;generalize wr.heap.size=bx at*;obtain⟨ma,k24,_,_,_,k28,_⟩:=RX.out.cellsR;obtain⟨k0,mb,k25,_,_,_,k29,_⟩:=HT1.out.2.2.2.1.cellsM;have MA:=qH ma;have MB:=qH mb;clear ma mb;by_cases ho:x.u.owner=m.u.owner;rotate_left
  ·have hod:=eq_false0 ho;rcases kinds_of m.u.kind with hk|hk|hk|hk|⟨h2,h3,h4,h5⟩
   ·skip;have HH:=qH (hits_no HX.out (tcs_own ho));(go_wp2_with fail);go_roundg (l.length - (r+1))
    case measure=>omega
    case rel=>refine⟨r+1,by omega,by go_num,?_,HT1.out⟩;rw[HH.out];exact HO1.out
   ·skip;have HH:=qH (hits_no HX.out (tcs_own ho));(go_wp2_with fail);go_roundg (l.length - (r+1))
    case measure=>omega
    case rel=>refine⟨r+1,by omega,by go_num,?_,HT1.out⟩;rw[HH.out];exact HO1.out
   ·skip;have HH:=qH (hits_no HX.out (tcs_own ho));(go_wp2_with fail);go_roundg (l.length - (r+1))
    case measure=>omega
    case rel=>refine⟨r+1,by omega,by go_num,?_,HT1.out⟩;rw[HH.out];exact HO1.out
   ·skip;have HH:=qH (hits_no HX.out (tcs_own ho));(go_wp2_with fail);go_roundg (l.length - (r+1))
    case measure=>omega
    case rel=>refine⟨r+1,by omega,by go_num,?_,HT1.out⟩;rw[HH.out];exact HO1.out
   ·have h2d:=eq_false0 h2;have h3d:=eq_false0 h3;have h4d:=eq_false0 h4;have h5d:=eq_false0 h5;have HH:=qH (hits_no HX.out (tcs_own ho));(go_wp2_with fail);go_roundg (l.length - (r+1))
    case measure=>omega
    case rel=>refine⟨r+1,by omega,by go_num,?_,HT1.out⟩;rw[HH.out];exact HO1.out
  have hod:=eq_true0 ho;rcases kinds_of m.u.kind with hk|hk|hk|hk|⟨h2,h3,h4,h5⟩
  ·have HC:=qH (rwithin_any x.u.m m.u.m HWx.out.m HW.out.m W);have HTC:=qH (tcs_in (m:=m) (x:=x) (.inl hk) ho);cases hin:inB x.u.m m.u.m
   ·rw[hin] at HC HTC;clear hin;(go_upto_region 15 with(first|(refine loadMidG rfl 37 (.tmp 31) rfl bx 0 rfl (cl x.u.m) _ MA.out Tryz.underlying37 rfl infoCube ?_)|(refine loadMidG rfl 37 (.tmp 33) rfl w.heap.size 1 rfl (cl m.u.m) _ MB.out Tryz.underlying37 rfl infoCube ?_)|(go_at_call 86;refine HC.out.mono ?_;rintro e w4 ⟨rfl,hw1⟩;refine Hid.out ?_)));have HT2:=qH (ToP.below hw1 HT1.out);have HO2:=qH (HO1.out.below hw1);clear hw1 HC RX HO1 HT1 MA MB k24 k28 k0 k25 k29;refine qH ?_;(go_upto_region 15 with fail);have HH:=qH (hits_no HX.out (HTC.out.trans (Bool.and_false _)));(go_wp2_with fail);go_roundg (l.length - (r+1))
    case measure=>omega
    case rel=>refine⟨r+1,by omega,by go_num,?_,HT2.out⟩;rw[HH.out];exact HO2.out
   ·rw[hin] at HC HTC;clear hin;(go_upto_region 15 with(first|(refine loadMidG rfl 37 (.tmp 31) rfl bx 0 rfl (cl x.u.m) _ MA.out Tryz.underlying37 rfl infoCube ?_)|(refine loadMidG rfl 37 (.tmp 33) rfl w.heap.size 1 rfl (cl m.u.m) _ MB.out Tryz.underlying37 rfl infoCube ?_)|(go_at_call 86;refine HC.out.mono ?_;rintro e w4 ⟨rfl,hw1⟩;refine Hid.out ?_)));have HT2:=qH (ToP.below hw1 HT1.out);have HO2:=qH (HO1.out.below hw1);clear hw1 HC RX HO1 HT1 MA MB k24 k28 k0 k25 k29;refine qH ?_;(go_upto_region 15 with fail);have HRM:=qH HT2.out.2.2.2.1;have HMo1:=qH (HMo.out _ HT2.out.2);cases hsn:sndM m.u
    ·rw[hsn] at HMo1;have HH:=qH (hits_no HX.out (HTC.out.trans (by rw[hsn];rfl)));clear hsn;(go_wp2_with(first|(refine loadRowG rfl 40 _ rfl w.heap.size rfl 40 (mca m) (0,0) HRM.out Tryz.underlying40 rfl infoM ?_)|(go_at_call 25;refine HMo1.out.mono ?_;rintro e w2 ⟨rfl,hw2⟩;refine Hid.out ?_)));have HT5:=qH (ToP.below hw2 HT2.out);have HO5:=qH (HO2.out.below hw2);clear hw2 HMo1 HRM;refine qH ?_;(go_wp2_with fail);go_roundg (l.length - (r+1))
     case measure=>omega
     case rel=>refine⟨r+1,by omega,by go_num,?_,HT5.out⟩;rw[HH.out];exact HO5.out
    ·rw[hsn] at HMo1;have HH:=qH (hits_yes HX.out (HTC.out.trans (by rw[hsn];rfl)));clear hsn;(go_upto_region 16 with(first|(refine loadRowG rfl 40 _ rfl w.heap.size rfl 40 (mca m) (0,0) HRM.out Tryz.underlying40 rfl infoM ?_)|(go_at_call 25;refine HMo1.out.mono ?_;rintro e w2 ⟨rfl,hw2⟩;refine Hid.out ?_)));have HT5:=qH (ToP.below hw2 HT2.out);have HO5:=qH (HO2.out.below hw2);clear hw2 HMo1 HRM;refine qH ?_;(go_upto_region 16 with fail);have HO6:=qH (HO5.out.below (below1 w2 (.cells #[.int .i64 (r:Int)] KI.T)));have HT6:=qH (ToP.below (below1 w2 (.cells #[.int .i64 (r:Int)] KI.T)) HT5.out);have HK:=qH (Blk.klies (K:=KI) (l:=[r]) (Blk.new w2 #[.int .i64 (r:Int)] KI.T) okI rfl);have hle:(hits (tcS m) l r).length≤r:=hits_len;have HLE:=qH (show(hits (tcS m) l r).length+[r].length≤1000000 by simp;omega);clear HO5 HT5 hle;(go_wp2_with(first|(refine kbuild KI okI 1 #[.int .i64 0] zeroI rfl _ rfl [(0,.int .i64 (r:Int))] rfl #[.int .i64 (r:Int)] (by decide) (by decide) (fillI r) ?_)|(refine kappend KI okI rfl _ _ rfl w1.heap.size _ (hits (tcS m) l r) [r] rfl HO6.out _ rfl HK.out HT6.out.1.size HLE.out (fun v' w' ho hg=>?_);refine Hid.out ?_)));have HO7:=qH ho;have HT7:=qH (ToP.own HS.out HO6.out hg HT6.out);clear ho hg HO6 HT6 HK;refine qH ?_;(go_wp2_with fail);go_roundg (l.length - (r+1))
     case measure=>omega
     case rel=>refine⟨r+1,by omega,by go_num,?_,HT7.out⟩;rw[HH.out];exact HO7.out
  ·have HC:=qH (rwithin_any x.u.m m.u.m HWx.out.m HW.out.m W);have HTC:=qH (tcs_in (m:=m) (x:=x) (.inr hk) ho);cases hin:inB x.u.m m.u.m
   ·rw[hin] at HC HTC;clear hin;(go_upto_region 15 with(first|(refine loadMidG rfl 37 (.tmp 31) rfl bx 0 rfl (cl x.u.m) _ MA.out Tryz.underlying37 rfl infoCube ?_)|(refine loadMidG rfl 37 (.tmp 33) rfl w.heap.size 1 rfl (cl m.u.m) _ MB.out Tryz.underlying37 rfl infoCube ?_)|(go_at_call 86;refine HC.out.mono ?_;rintro e w4 ⟨rfl,hw1⟩;refine Hid.out ?_)));have HT2:=qH (ToP.below hw1 HT1.out);have HO2:=qH (HO1.out.below hw1);clear hw1 HC RX HO1 HT1 MA MB k24 k28 k0 k25 k29;refine qH ?_;(go_upto_region 15 with fail);have HH:=qH (hits_no HX.out (HTC.out.trans (Bool.and_false _)));(go_wp2_with fail);go_roundg (l.length - (r+1))
    case measure=>omega
    case rel=>refine⟨r+1,by omega,by go_num,?_,HT2.out⟩;rw[HH.out];exact HO2.out
   ·rw[hin] at HC HTC;clear hin;(go_upto_region 15 with(first|(refine loadMidG rfl 37 (.tmp 31) rfl bx 0 rfl (cl x.u.m) _ MA.out Tryz.underlying37 rfl infoCube ?_)|(refine loadMidG rfl 37 (.tmp 33) rfl w.heap.size 1 rfl (cl m.u.m) _ MB.out Tryz.underlying37 rfl infoCube ?_)|(go_at_call 86;refine HC.out.mono ?_;rintro e w4 ⟨rfl,hw1⟩;refine Hid.out ?_)));have HT2:=qH (ToP.below hw1 HT1.out);have HO2:=qH (HO1.out.below hw1);clear hw1 HC RX HO1 HT1 MA MB k24 k28 k0 k25 k29;refine qH ?_;(go_upto_region 15 with fail);have HRM:=qH HT2.out.2.2.2.1;have HMo1:=qH (HMo.out _ HT2.out.2);cases hsn:sndM m.u
    ·rw[hsn] at HMo1;have HH:=qH (hits_no HX.out (HTC.out.trans (by rw[hsn];rfl)));clear hsn;(go_wp2_with(first|(refine loadRowG rfl 40 _ rfl w.heap.size rfl 40 (mca m) (0,0) HRM.out Tryz.underlying40 rfl infoM ?_)|(go_at_call 25;refine HMo1.out.mono ?_;rintro e w2 ⟨rfl,hw2⟩;refine Hid.out ?_)));have HT5:=qH (ToP.below hw2 HT2.out);have HO5:=qH (HO2.out.below hw2);clear hw2 HMo1 HRM;refine qH ?_;(go_wp2_with fail);go_roundg (l.length - (r+1))
     case measure=>omega
     case rel=>refine⟨r+1,by omega,by go_num,?_,HT5.out⟩;rw[HH.out];exact HO5.out
    ·rw[hsn] at HMo1;have HH:=qH (hits_yes HX.out (HTC.out.trans (by rw[hsn];rfl)));clear hsn;(go_upto_region 16 with(first|(refine loadRowG rfl 40 _ rfl w.heap.size rfl 40 (mca m) (0,0) HRM.out Tryz.underlying40 rfl infoM ?_)|(go_at_call 25;refine HMo1.out.mono ?_;rintro e w2 ⟨rfl,hw2⟩;refine Hid.out ?_)));have HT5:=qH (ToP.below hw2 HT2.out);have HO5:=qH (HO2.out.below hw2);clear hw2 HMo1 HRM;refine qH ?_;(go_upto_region 16 with fail);have HO6:=qH (HO5.out.below (below1 w2 (.cells #[.int .i64 (r:Int)] KI.T)));have HT6:=qH (ToP.below (below1 w2 (.cells #[.int .i64 (r:Int)] KI.T)) HT5.out);have HK:=qH (Blk.klies (K:=KI) (l:=[r]) (Blk.new w2 #[.int .i64 (r:Int)] KI.T) okI rfl);have hle:(hits (tcS m) l r).length≤r:=hits_len;have HLE:=qH (show(hits (tcS m) l r).length+[r].length≤1000000 by simp;omega);clear HO5 HT5 hle;(go_wp2_with(first|(refine kbuild KI okI 1 #[.int .i64 0] zeroI rfl _ rfl [(0,.int .i64 (r:Int))] rfl #[.int .i64 (r:Int)] (by decide) (by decide) (fillI r) ?_)|(refine kappend KI okI rfl _ _ rfl w1.heap.size _ (hits (tcS m) l r) [r] rfl HO6.out _ rfl HK.out HT6.out.1.size HLE.out (fun v' w' ho hg=>?_);refine Hid.out ?_)));have HO7:=qH ho;have HT7:=qH (ToP.own HS.out HO6.out hg HT6.out);clear ho hg HO6 HT6 HK;refine qH ?_;(go_wp2_with fail);go_roundg (l.length - (r+1))
     case measure=>omega
     case rel=>refine⟨r+1,by omega,by go_num,?_,HT7.out⟩;rw[HH.out];exact HO7.out
  ·have HTC:=qH (tcs_it (m:=m) (x:=x) (.inl hk) ho);have heq:=eqlC x.u.m m.u.m;have hgd:=guardCube;cases hc:cEq x.u.m m.u.m
   ·rw[hc] at heq HTC;(go_upto_region 15 with(first|(refine loadMidG rfl 37 (.tmp 42) rfl bx 0 rfl (cl x.u.m) _ MA.out Tryz.underlying37 rfl infoCube ?_)|(refine loadMidG rfl 37 (.tmp 44) rfl w.heap.size 1 rfl (cl m.u.m) _ MB.out Tryz.underlying37 rfl infoCube ?_)));clear heq hgd RX MA MB k24 k28 k0 k25 k29;have HH:=qH (hits_no HX.out (HTC.out.trans (by simp)));(go_wp2_with fail);go_roundg (l.length - (r+1))
    case measure=>omega
    case rel=>refine⟨r+1,by omega,by go_num,?_,HT1.out⟩;rw[HH.out];exact HO1.out
   ·rw[hc] at heq HTC;by_cases hp:x.u.p=m.u.p;rotate_left
    ·have hpd:=eq_false0 hp;(go_upto_region 15 with(first|(refine loadMidG rfl 37 (.tmp 42) rfl bx 0 rfl (cl x.u.m) _ MA.out Tryz.underlying37 rfl infoCube ?_)|(refine loadMidG rfl 37 (.tmp 44) rfl w.heap.size 1 rfl (cl m.u.m) _ MB.out Tryz.underlying37 rfl infoCube ?_)));clear heq hgd RX MA MB k24 k28 k0 k25 k29;have HH:=qH (hits_no HX.out (HTC.out.trans (by rw[hpd];simp)));(go_wp2_with fail);go_roundg (l.length - (r+1))
     case measure=>omega
     case rel=>refine⟨r+1,by omega,by go_num,?_,HT1.out⟩;rw[HH.out];exact HO1.out
    have hpd:=eq_true0 hp;rw[hpd] at HTC;(go_upto_region 15 with(first|(refine loadMidG rfl 37 (.tmp 42) rfl bx 0 rfl (cl x.u.m) _ MA.out Tryz.underlying37 rfl infoCube ?_)|(refine loadMidG rfl 37 (.tmp 44) rfl w.heap.size 1 rfl (cl m.u.m) _ MB.out Tryz.underlying37 rfl infoCube ?_)));clear heq hgd RX MA MB k24 k28 k0 k25 k29;have HRM:=qH HT1.out.2.2.2.1;have HMo1:=qH (HMo.out _ HT1.out.2);cases hsn:sndM m.u
    ·rw[hsn] at HMo1;have HH:=qH (hits_no HX.out (HTC.out.trans (by rw[hsn];rfl)));clear hsn;(go_wp2_with(first|(refine loadRowG rfl 40 _ rfl w.heap.size rfl 40 (mca m) (0,0) HRM.out Tryz.underlying40 rfl infoM ?_)|(go_at_call 25;refine HMo1.out.mono ?_;rintro e w2 ⟨rfl,hw2⟩;refine Hid.out ?_)));have HT5:=qH (ToP.below hw2 HT1.out);have HO5:=qH (HO1.out.below hw2);clear hw2 HMo1 HRM;refine qH ?_;(go_wp2_with fail);go_roundg (l.length - (r+1))
     case measure=>omega
     case rel=>refine⟨r+1,by omega,by go_num,?_,HT5.out⟩;rw[HH.out];exact HO5.out
    ·rw[hsn] at HMo1;have HH:=qH (hits_yes HX.out (HTC.out.trans (by rw[hsn];rfl)));clear hsn;(go_upto_region 16 with(first|(refine loadRowG rfl 40 _ rfl w.heap.size rfl 40 (mca m) (0,0) HRM.out Tryz.underlying40 rfl infoM ?_)|(go_at_call 25;refine HMo1.out.mono ?_;rintro e w2 ⟨rfl,hw2⟩;refine Hid.out ?_)));have HT5:=qH (ToP.below hw2 HT1.out);have HO5:=qH (HO1.out.below hw2);clear hw2 HMo1 HRM;refine qH ?_;(go_upto_region 16 with fail);have HO6:=qH (HO5.out.below (below1 w2 (.cells #[.int .i64 (r:Int)] KI.T)));have HT6:=qH (ToP.below (below1 w2 (.cells #[.int .i64 (r:Int)] KI.T)) HT5.out);have HK:=qH (Blk.klies (K:=KI) (l:=[r]) (Blk.new w2 #[.int .i64 (r:Int)] KI.T) okI rfl);have hle:(hits (tcS m) l r).length≤r:=hits_len;have HLE:=qH (show(hits (tcS m) l r).length+[r].length≤1000000 by simp;omega);clear HO5 HT5 hle;(go_wp2_with(first|(refine kbuild KI okI 1 #[.int .i64 0] zeroI rfl _ rfl [(0,.int .i64 (r:Int))] rfl #[.int .i64 (r:Int)] (by decide) (by decide) (fillI r) ?_)|(refine kappend KI okI rfl _ _ rfl w1.heap.size _ (hits (tcS m) l r) [r] rfl HO6.out _ rfl HK.out HT6.out.1.size HLE.out (fun v' w' ho hg=>?_);refine Hid.out ?_)));have HO7:=qH ho;have HT7:=qH (ToP.own HS.out HO6.out hg HT6.out);clear ho hg HO6 HT6 HK;refine qH ?_;(go_wp2_with fail);go_roundg (l.length - (r+1))
     case measure=>omega
     case rel=>refine⟨r+1,by omega,by go_num,?_,HT7.out⟩;rw[HH.out];exact HO7.out
  ·have HTC:=qH (tcs_it (m:=m) (x:=x) (.inr hk) ho);have heq:=eqlC x.u.m m.u.m;have hgd:=guardCube;cases hc:cEq x.u.m m.u.m
   ·rw[hc] at heq HTC;(go_upto_region 15 with(first|(refine loadMidG rfl 37 (.tmp 42) rfl bx 0 rfl (cl x.u.m) _ MA.out Tryz.underlying37 rfl infoCube ?_)|(refine loadMidG rfl 37 (.tmp 44) rfl w.heap.size 1 rfl (cl m.u.m) _ MB.out Tryz.underlying37 rfl infoCube ?_)));clear heq hgd RX MA MB k24 k28 k0 k25 k29;have HH:=qH (hits_no HX.out (HTC.out.trans (by simp)));(go_wp2_with fail);go_roundg (l.length - (r+1))
    case measure=>omega
    case rel=>refine⟨r+1,by omega,by go_num,?_,HT1.out⟩;rw[HH.out];exact HO1.out
   ·rw[hc] at heq HTC;by_cases hp:x.u.p=m.u.p;rotate_left
    ·have hpd:=eq_false0 hp;(go_upto_region 15 with(first|(refine loadMidG rfl 37 (.tmp 42) rfl bx 0 rfl (cl x.u.m) _ MA.out Tryz.underlying37 rfl infoCube ?_)|(refine loadMidG rfl 37 (.tmp 44) rfl w.heap.size 1 rfl (cl m.u.m) _ MB.out Tryz.underlying37 rfl infoCube ?_)));clear heq hgd RX MA MB k24 k28 k0 k25 k29;have HH:=qH (hits_no HX.out (HTC.out.trans (by rw[hpd];simp)));(go_wp2_with fail);go_roundg (l.length - (r+1))
     case measure=>omega
     case rel=>refine⟨r+1,by omega,by go_num,?_,HT1.out⟩;rw[HH.out];exact HO1.out
    have hpd:=eq_true0 hp;rw[hpd] at HTC;(go_upto_region 15 with(first|(refine loadMidG rfl 37 (.tmp 42) rfl bx 0 rfl (cl x.u.m) _ MA.out Tryz.underlying37 rfl infoCube ?_)|(refine loadMidG rfl 37 (.tmp 44) rfl w.heap.size 1 rfl (cl m.u.m) _ MB.out Tryz.underlying37 rfl infoCube ?_)));clear heq hgd RX MA MB k24 k28 k0 k25 k29;have HRM:=qH HT1.out.2.2.2.1;have HMo1:=qH (HMo.out _ HT1.out.2);cases hsn:sndM m.u
    ·rw[hsn] at HMo1;have HH:=qH (hits_no HX.out (HTC.out.trans (by rw[hsn];rfl)));clear hsn;(go_wp2_with(first|(refine loadRowG rfl 40 _ rfl w.heap.size rfl 40 (mca m) (0,0) HRM.out Tryz.underlying40 rfl infoM ?_)|(go_at_call 25;refine HMo1.out.mono ?_;rintro e w2 ⟨rfl,hw2⟩;refine Hid.out ?_)));have HT5:=qH (ToP.below hw2 HT1.out);have HO5:=qH (HO1.out.below hw2);clear hw2 HMo1 HRM;refine qH ?_;(go_wp2_with fail);go_roundg (l.length - (r+1))
     case measure=>omega
     case rel=>refine⟨r+1,by omega,by go_num,?_,HT5.out⟩;rw[HH.out];exact HO5.out
    ·rw[hsn] at HMo1;have HH:=qH (hits_yes HX.out (HTC.out.trans (by rw[hsn];rfl)));clear hsn;(go_upto_region 16 with(first|(refine loadRowG rfl 40 _ rfl w.heap.size rfl 40 (mca m) (0,0) HRM.out Tryz.underlying40 rfl infoM ?_)|(go_at_call 25;refine HMo1.out.mono ?_;rintro e w2 ⟨rfl,hw2⟩;refine Hid.out ?_)));have HT5:=qH (ToP.below hw2 HT1.out);have HO5:=qH (HO1.out.below hw2);clear hw2 HMo1 HRM;refine qH ?_;(go_upto_region 16 with fail);have HO6:=qH (HO5.out.below (below1 w2 (.cells #[.int .i64 (r:Int)] KI.T)));have HT6:=qH (ToP.below (below1 w2 (.cells #[.int .i64 (r:Int)] KI.T)) HT5.out);have HK:=qH (Blk.klies (K:=KI) (l:=[r]) (Blk.new w2 #[.int .i64 (r:Int)] KI.T) okI rfl);have hle:(hits (tcS m) l r).length≤r:=hits_len;have HLE:=qH (show(hits (tcS m) l r).length+[r].length≤1000000 by simp;omega);clear HO5 HT5 hle;(go_wp2_with(first|(refine kbuild KI okI 1 #[.int .i64 0] zeroI rfl _ rfl [(0,.int .i64 (r:Int))] rfl #[.int .i64 (r:Int)] (by decide) (by decide) (fillI r) ?_)|(refine kappend KI okI rfl _ _ rfl w1.heap.size _ (hits (tcS m) l r) [r] rfl HO6.out _ rfl HK.out HT6.out.1.size HLE.out (fun v' w' ho hg=>?_);refine Hid.out ?_)));have HO7:=qH ho;have HT7:=qH (ToP.own HS.out HO6.out hg HT6.out);clear ho hg HO6 HT6 HK;refine qH ?_;(go_wp2_with fail);go_roundg (l.length - (r+1))
     case measure=>omega
     case rel=>refine⟨r+1,by omega,by go_num,?_,HT7.out⟩;rw[HH.out];exact HO7.out
  ·have h2d:=eq_false0 h2;have h3d:=eq_false0 h3;have h4d:=eq_false0 h4;have h5d:=eq_false0 h5;have HH:=qH (hits_no HX.out (tcs_no (m:=m) (x:=x) (by omega) (by omega)));(go_wp2_with fail);go_roundg (l.length - (r+1))
   case measure=>omega
   case rel=>refine⟨r+1,by omega,by go_num,?_,HT1.out⟩;rw[HH.out];exact HO1.out
end Go.Proofs.YtomnpfbebimpkaaGreatDoor
