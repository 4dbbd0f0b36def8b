/-
  The walk of Tick of the reference.
-/
import Derived.Test.YtomnpfbebimpkaaGreatDoorLapTkM
import Derived.Test.YtomnpfbebimpkaaGreatDoorSq
namespace Go.Proofs.YtomnpfbebimpkaaGreatDoor
set_option maxRecDepth 20000
open Go.RowKit
set_option maxHeartbeats 8000000 in
theorem rtick_own (v:Value) (l:List Rm) (hlen:l.length≤100000) (hw:WfRL l) (n:Int) (w:World) (hl:RLies v l w):Calls Tryz.prog 65 #[v,.int .i64 n] w (TickRet (fun _ r _=>FromL l r) w (clampN n) (l.map (·.u))):=by
 obtain⟨p,cap,rfl⟩:=hl.1.form;have HL:=qH hl;have HW:=qH hw;clear hl hw;have hmr:=clamp_range n;have hm0:=hmr.1;have hm1:=hmr.2;obtain⟨m,hm⟩:∃m,m=clampN n:=⟨_,rfl⟩;have HM:=qH hm;rw[←hm] at hm0 hm1 ⊢;clear hm hmr;(go_enter Tryz.func65,Tryz.ntmps65);(go_upto_if 11 with fail);go_cut [1] (fun v W=>v= .int .i64 (if n<0 then 0 else n)∧w=W)
 case first=>
  by_cases h:n<0
  ·(go_wp2_with fail);go_meet
   case rel=>exact⟨by rw[if_pos h],rfl⟩
  ·(go_wp2_with fail);go_meet
   case rel=>exact⟨by rw[if_neg (by omega)],rfl⟩
 case rest=>
  obtain⟨rfl,rfl⟩:=hcut;(go_upto_if 13 with fail);go_cut [1] (fun v W=>v= .int .i64 m∧w=W)
  case first=>
   by_cases h:n<0
   ·rw[if_pos h];(go_wp2_with fail);go_meet
    case rel=>exact⟨by rw[HM.out];unfold clampN;rw[if_pos h],rfl⟩
   ·rw[if_neg h];by_cases h':1048576<n
    ·(go_wp2_with fail);go_meet
     case rel=>exact⟨by rw[HM.out];unfold clampN;rw[if_neg (by omega),if_pos h'],rfl⟩
    ·(go_wp2_with fail);go_meet
     case rel=>exact⟨by rw[HM.out];unfold clampN;rw[if_neg (by omega),if_neg (by omega)],rfl⟩
  case rest=>
   obtain⟨rfl,rfl⟩:=hcut;clear HM;(go_wp2_with fail);go_loopg [6,7,8] l.length (fun k va vb i wr=>∃(r:Nat) (A B:List Rm),r+k=l.length∧i= .int .i64 r∧A.map (·.u)=leftL m ((l.take r).map (·.u))∧B.map (·.u)=goneL m ((l.take r).map (·.u))∧A.length+B.length=r∧TkS (fun r _=>FromL l r) w va A vb B wr)
   case atStart=>exact⟨0,[],[],by omega,rfl,rfl,rfl,rfl,TkS.start _ _⟩
   case round=>
    obtain⟨r,A,B,hr,rfl,ha,hb,hab,hs⟩:=hrel;have HA:=qH ha;have HB:=qH hb;have HS:=qH hs;have HAB:=qH hab;clear ha hb hs hab;by_cases hlt:r<l.length
    ·have hltI:(r:Int)<(l.length:Int):=(by omega);obtain⟨x,hx⟩:=lt_some hlt;obtain⟨b,o,rfl,hrg⟩:=(HL.out.1.below okR HS.out.kept).at hx;have HR:=qH hrg;have HX:=qH hx;have HIx:=qH (List.mem_of_getElem? hx);have HWx:=qH (HW.out.at hx);clear hx hrg;(go_upto_region 10 with(first|(refine wpList_load_mid rfl 88 _ rfl b (o+r*32) rfl (rcl x) _ HR.out Tryz.underlying88 rfl infoR ?_)|(refine wpList_store_row rfl 88 _ _ rfl wr.heap.size (rca x) rfl rfl 88 _ (heap_alloc_new _ _) (by kernel_rfl) rfl (rca_one _) ?_;rw[World.setRow_alloc_new])));have RX:=qH (Blk.new wr (rca x) 88);have HBW:=qH (below1 wr (.cells (rca x) 88));clear HR;generalize wr.alloc (.cells (rca x) 88)=W at*;have k31:=RX.out.cellsR.2.2.2.2.2.2.2.2;have P1:=qH (rmore_any x.u.age m HWx.out.nums.2.2.2.2.2.2 hm0 hm1 W);(go_upto_region 11 with(first|(go_at_call 90;refine P1.out.mono ?_;rintro e W ⟨rfl,rfl⟩)|(refine storeCell rfl 3 _ _ rfl wr.heap.size 31 (.int .i64 (moreI x.u.age m)) rfl rfl rfl (RX.out.there (by rw[rca_size];decide)) infoInt ?_;refine Hid.out ?_)));have R2:=qH (RX.out.age (moreI x.u.age m));have HBW2:=qH (HBW.out.setCell (Nat.le_refl _) (.int .i64 (moreI x.u.age m)) (p:=⟨wr.heap.size,31,none⟩));clear RX HBW k31 P1;generalize W.setCell ⟨wr.heap.size,31,none⟩ (.int .i64 (moreI x.u.age m))=W2 at*;refine qH ?_;have k30:=R2.out.cellsR.2.2.2.2.2.2.2.1;have P2:=qH (rmore_any x.u.quiet m HWx.out.nums.2.2.2.2.2.1 hm0 hm1 W2);(go_upto_region 12 with(first|(go_at_call 90;refine P2.out.mono ?_;rintro e W2 ⟨rfl,rfl⟩)|(refine storeCell rfl 3 _ _ rfl wr.heap.size 30 (.int .i64 (moreI x.u.quiet m)) rfl rfl rfl (R2.out.there (by rw[rca_size];decide)) infoInt ?_;refine Hid.out ?_)));have R3:=qH (R2.out.quiet (moreI x.u.quiet m));have HBW3:=qH (HBW2.out.setCell (Nat.le_refl _) (.int .i64 (moreI x.u.quiet m)) (p:=⟨wr.heap.size,30,none⟩));clear R2 HBW2 k30 P2;generalize W2.setCell ⟨wr.heap.size,30,none⟩ (.int .i64 (moreI x.u.quiet m))=W3 at*;obtain⟨y,hy⟩:∃y:Rm,y=⟨tickU m x.u,x.q,x.n,x.c⟩:=⟨_,rfl⟩;have R4:=qH (show Blk wr.heap.size (rca y) 88 W3 by rw[hy];exact R3.out);have HYU:=qH (show y.u=tickU m x.u by rw[hy]);have HO5:=qH (show FromL l y from fun W h=>by rw[hy];exact h x HIx.out);have HS5:=qH (TkS.below (stab_from _) (below1 W3 (.cells (rca y) KR.T)) (TkS.below (stab_from _) HBW3.out HS.out));have HK5:=qH (Blk.klies (l:=[y]) (Blk.new W3 (rca y) KR.T) okR (by simp[Kd.flat,rca]));clear hy R3 HBW3 HIx HWx HS;obtain⟨_,_,_,k26,k27,_,_,k30,k31⟩:=R4.out.cellsR;refine qH ?_;by_cases h1:0<y.u.hard
     ·by_cases h2:y.u.hard≤y.u.age
      ·have HGG:=qH (show goneB y.u=true by unfold goneB;simp[h1,h2]);(go_upto_if 55 with fail);(go_wp2_with(first|(refine wpList_load_row rfl 88 _ rfl wr.heap.size rfl 88 (rca y) (0,0) _ R4.out Tryz.underlying88 rfl infoR ?_)|(refine kbuildOne KR okR _ zeroR rfl (.tmp 57) rfl (rca y) rfl (by decide) (fillOne y) ?_)|(refine kappendW KR okR rfl (.tmp 56) (.tmp 58) rfl w.heap.size u7 B [y] rfl HS5.out.b _ rfl HK5.out HS5.out.kept.size (by have:=HAB.out;simp;omega) (fun v6 w6 ho hg hn=>?_);refine Hid.out ?_)));have HS6:=qH (TkS.symm (TkS.push (stab_from _) (TkS.symm HS5.out) HO5.out ho hg hn));clear ho hg hn HS5 HO5 HK5 R4 k26 k27 k30 k31;refine qH ?_;(go_wp2_with fail);go_roundg (l.length - (r+1))
       case measure=>omega
       case rel=>
        refine⟨r+1,A,B++[y],by omega,by go_num,?_,?_,by have:=HAB.out;simp;omega,HS6.out⟩
        ·rw[take_map_succ HX.out,left_snoc,←HYU.out,HGG.out,HA.out];simp
        ·rw[take_map_succ HX.out,gone_snoc,←HYU.out,HGG.out,List.map_append,HB.out];simp
      ·by_cases h3:0<y.u.idle
       ·by_cases h4:y.u.idle≤y.u.quiet
        ·have HGG:=qH (show goneB y.u=true by unfold goneB;simp[h1,h2,h3,h4]);(go_upto_if 55 with fail);(go_wp2_with(first|(refine wpList_load_row rfl 88 _ rfl wr.heap.size rfl 88 (rca y) (0,0) _ R4.out Tryz.underlying88 rfl infoR ?_)|(refine kbuildOne KR okR _ zeroR rfl (.tmp 57) rfl (rca y) rfl (by decide) (fillOne y) ?_)|(refine kappendW KR okR rfl (.tmp 56) (.tmp 58) rfl w.heap.size u7 B [y] rfl HS5.out.b _ rfl HK5.out HS5.out.kept.size (by have:=HAB.out;simp;omega) (fun v6 w6 ho hg hn=>?_);refine Hid.out ?_)));have HS6:=qH (TkS.symm (TkS.push (stab_from _) (TkS.symm HS5.out) HO5.out ho hg hn));clear ho hg hn HS5 HO5 HK5 R4 k26 k27 k30 k31;refine qH ?_;(go_wp2_with fail);go_roundg (l.length - (r+1))
         case measure=>omega
         case rel=>
          refine⟨r+1,A,B++[y],by omega,by go_num,?_,?_,by have:=HAB.out;simp;omega,HS6.out⟩
          ·rw[take_map_succ HX.out,left_snoc,←HYU.out,HGG.out,HA.out];simp
          ·rw[take_map_succ HX.out,gone_snoc,←HYU.out,HGG.out,List.map_append,HB.out];simp
        ·have HGG:=qH (show goneB y.u=false by unfold goneB;simp[h1,h2,h3,h4]);(go_upto_if 55 with fail);(go_wp2_with(first|(refine wpList_load_row rfl 88 _ rfl wr.heap.size rfl 88 (rca y) (0,0) _ R4.out Tryz.underlying88 rfl infoR ?_)|(refine kbuildOne KR okR _ zeroR rfl (.tmp 61) rfl (rca y) rfl (by decide) (fillOne y) ?_)|(refine kappendW KR okR rfl (.tmp 60) (.tmp 62) rfl w.heap.size u6 A [y] rfl HS5.out.a _ rfl HK5.out HS5.out.kept.size (by have:=HAB.out;simp;omega) (fun v6 w6 ho hg hn=>?_);refine Hid.out ?_)));have HS6:=qH (TkS.push (stab_from _) HS5.out HO5.out ho hg hn);clear ho hg hn HS5 HO5 HK5 R4 k26 k27 k30 k31;refine qH ?_;(go_wp2_with fail);go_roundg (l.length - (r+1))
         case measure=>omega
         case rel=>
          refine⟨r+1,A++[y],B,by omega,by go_num,?_,?_,by have:=HAB.out;simp;omega,HS6.out⟩
          ·rw[take_map_succ HX.out,left_snoc,←HYU.out,HGG.out,List.map_append,HA.out];simp
          ·rw[take_map_succ HX.out,gone_snoc,←HYU.out,HGG.out,HB.out];simp
       ·have HGG:=qH (show goneB y.u=false by unfold goneB;simp[h1,h2,h3]);(go_upto_if 55 with fail);(go_wp2_with(first|(refine wpList_load_row rfl 88 _ rfl wr.heap.size rfl 88 (rca y) (0,0) _ R4.out Tryz.underlying88 rfl infoR ?_)|(refine kbuildOne KR okR _ zeroR rfl (.tmp 61) rfl (rca y) rfl (by decide) (fillOne y) ?_)|(refine kappendW KR okR rfl (.tmp 60) (.tmp 62) rfl w.heap.size u6 A [y] rfl HS5.out.a _ rfl HK5.out HS5.out.kept.size (by have:=HAB.out;simp;omega) (fun v6 w6 ho hg hn=>?_);refine Hid.out ?_)));have HS6:=qH (TkS.push (stab_from _) HS5.out HO5.out ho hg hn);clear ho hg hn HS5 HO5 HK5 R4 k26 k27 k30 k31;refine qH ?_;(go_wp2_with fail);go_roundg (l.length - (r+1))
        case measure=>omega
        case rel=>
         refine⟨r+1,A++[y],B,by omega,by go_num,?_,?_,by have:=HAB.out;simp;omega,HS6.out⟩
         ·rw[take_map_succ HX.out,left_snoc,←HYU.out,HGG.out,List.map_append,HA.out];simp
         ·rw[take_map_succ HX.out,gone_snoc,←HYU.out,HGG.out,HB.out];simp
     ·by_cases h3:0<y.u.idle
      ·by_cases h4:y.u.idle≤y.u.quiet
       ·have HGG:=qH (show goneB y.u=true by unfold goneB;simp[h1,h3,h4]);(go_upto_if 55 with fail);(go_wp2_with(first|(refine wpList_load_row rfl 88 _ rfl wr.heap.size rfl 88 (rca y) (0,0) _ R4.out Tryz.underlying88 rfl infoR ?_)|(refine kbuildOne KR okR _ zeroR rfl (.tmp 57) rfl (rca y) rfl (by decide) (fillOne y) ?_)|(refine kappendW KR okR rfl (.tmp 56) (.tmp 58) rfl w.heap.size u7 B [y] rfl HS5.out.b _ rfl HK5.out HS5.out.kept.size (by have:=HAB.out;simp;omega) (fun v6 w6 ho hg hn=>?_);refine Hid.out ?_)));have HS6:=qH (TkS.symm (TkS.push (stab_from _) (TkS.symm HS5.out) HO5.out ho hg hn));clear ho hg hn HS5 HO5 HK5 R4 k26 k27 k30 k31;refine qH ?_;(go_wp2_with fail);go_roundg (l.length - (r+1))
        case measure=>omega
        case rel=>
         refine⟨r+1,A,B++[y],by omega,by go_num,?_,?_,by have:=HAB.out;simp;omega,HS6.out⟩
         ·rw[take_map_succ HX.out,left_snoc,←HYU.out,HGG.out,HA.out];simp
         ·rw[take_map_succ HX.out,gone_snoc,←HYU.out,HGG.out,List.map_append,HB.out];simp
       ·have HGG:=qH (show goneB y.u=false by unfold goneB;simp[h1,h3,h4]);(go_upto_if 55 with fail);(go_wp2_with(first|(refine wpList_load_row rfl 88 _ rfl wr.heap.size rfl 88 (rca y) (0,0) _ R4.out Tryz.underlying88 rfl infoR ?_)|(refine kbuildOne KR okR _ zeroR rfl (.tmp 61) rfl (rca y) rfl (by decide) (fillOne y) ?_)|(refine kappendW KR okR rfl (.tmp 60) (.tmp 62) rfl w.heap.size u6 A [y] rfl HS5.out.a _ rfl HK5.out HS5.out.kept.size (by have:=HAB.out;simp;omega) (fun v6 w6 ho hg hn=>?_);refine Hid.out ?_)));have HS6:=qH (TkS.push (stab_from _) HS5.out HO5.out ho hg hn);clear ho hg hn HS5 HO5 HK5 R4 k26 k27 k30 k31;refine qH ?_;(go_wp2_with fail);go_roundg (l.length - (r+1))
        case measure=>omega
        case rel=>
         refine⟨r+1,A++[y],B,by omega,by go_num,?_,?_,by have:=HAB.out;simp;omega,HS6.out⟩
         ·rw[take_map_succ HX.out,left_snoc,←HYU.out,HGG.out,List.map_append,HA.out];simp
         ·rw[take_map_succ HX.out,gone_snoc,←HYU.out,HGG.out,HB.out];simp
      ·have HGG:=qH (show goneB y.u=false by unfold goneB;simp[h1,h3]);(go_upto_if 55 with fail);(go_wp2_with(first|(refine wpList_load_row rfl 88 _ rfl wr.heap.size rfl 88 (rca y) (0,0) _ R4.out Tryz.underlying88 rfl infoR ?_)|(refine kbuildOne KR okR _ zeroR rfl (.tmp 61) rfl (rca y) rfl (by decide) (fillOne y) ?_)|(refine kappendW KR okR rfl (.tmp 60) (.tmp 62) rfl w.heap.size u6 A [y] rfl HS5.out.a _ rfl HK5.out HS5.out.kept.size (by have:=HAB.out;simp;omega) (fun v6 w6 ho hg hn=>?_);refine Hid.out ?_)));have HS6:=qH (TkS.push (stab_from _) HS5.out HO5.out ho hg hn);clear ho hg hn HS5 HO5 HK5 R4 k26 k27 k30 k31;refine qH ?_;(go_wp2_with fail);go_roundg (l.length - (r+1))
       case measure=>omega
       case rel=>
        refine⟨r+1,A++[y],B,by omega,by go_num,?_,?_,by have:=HAB.out;simp;omega,HS6.out⟩
        ·rw[take_map_succ HX.out,left_snoc,←HYU.out,HGG.out,List.map_append,HA.out];simp
        ·rw[take_map_succ HX.out,gone_snoc,←HYU.out,HGG.out,HB.out];simp
    ·have hltI:¬(r:Int)<(l.length:Int):=(by omega);have hr':r=l.length:=(by omega);have HT:=qH hr';clear hr';(go_wp2_with fail);(go_ret2);refine⟨u6,u7,A,B,rfl,?_,?_,HS.out⟩
     ·rw[HA.out,HT.out,List.take_length]
     ·rw[HB.out,HT.out,List.take_length]
end Go.Proofs.YtomnpfbebimpkaaGreatDoor
