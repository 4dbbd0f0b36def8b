/-
  SameMods of the reference, Same of package mods.
-/
import Derived.Test.YtomnpfbebimpkaaGreatDoorModRef
import Derived.Test.YtomnpfbebimpkaaGreatDoorSq
namespace Go.Proofs.YtomnpfbebimpkaaGreatDoor
set_option maxRecDepth 20000
open Go.RowKit
def mEq (a b : Mu) : Bool := (a.kind == b.kind) && (cEq a.m b.m && ((a.p == b.p) && (aEqL a.acts b.acts && ((a.idle == b.idle) && ((a.hard == b.hard) && ((a.owner == b.owner) && (a.chk == b.chk)))))))
theorem mEq_self (a:Mu):mEq a a=true:=by simp[mEq,cEq_refl,(aEqL_iff a.acts a.acts).2 rfl]
theorem twoM_a (w:World) (a b:Mm):Blk w.heap.size (mca a) 40 ((w.alloc (.cells (mca a) 40)).alloc (.cells (mca b) 40)):=(Blk.new w (mca a) 40).old _
theorem twoM_b (w:World) (a b:Mm):Blk (w.heap.size+1) (mca b) 40 ((w.alloc (.cells (mca a) 40)).alloc (.cells (mca b) 40)):=Blk.new2 w (.cells (mca a) 40) (mca b) 40
theorem twoM_below (w:World) (a b:Mm):Below w.heap.size w ((w.alloc (.cells (mca a) 40)).alloc (.cells (mca b) 40)):=(below1 w (.cells (mca a) 40)).trans ((below1 (w.alloc (.cells (mca a) 40)) (.cells (mca b) 40)).mono (below1 w (.cells (mca a) 40)).size)
set_option maxHeartbeats 4000000 in
theorem rsamem_any (a b:Mm) (hb:b.u.acts.length≤140737488355328) (w:World) (la:InM a w) (lb:InM b w):Calls Tryz.prog 59 #[.agg (mca a),.agg (mca b)] w fun e w'=>e= .returned (.bool (mEq a.u b.u))∧Below w.heap.size w w':=by
 have RA:=qH (twoM_a w a b);have RB:=qH (twoM_b w a b);have HB:=qH (twoM_below w a b);have HC:=qH (rsameA_any (.slice a.q a.n a.c) (.slice b.q b.n b.c) a.u.acts b.u.acts hb _ (la.below HB.out) (lb.below HB.out));have heq:=eqlC a.u.m b.u.m;have hgd:=guardCube;have MA:=qH RA.out.cellsM.2.1;have MB:=qH RB.out.cellsM.2.1;obtain⟨a0,_,a25,a26,_⟩:=RA.out.cellsM;obtain⟨b0,_,b25,b26,_⟩:=RB.out.cellsM;obtain⟨y,hy⟩:∃y,y=mEq a.u b.u:=⟨_,rfl⟩;rw[←hy];unfold mEq at hy;have HY:=qH hy;clear hy la lb hb;generalize cEq a.u.m b.u.m=yc at*;generalize aEqL a.u.acts b.u.acts=ya at*;by_cases h0:a.u.kind=b.u.kind;rotate_left
 ·have h0d:=eq_false0 h0;(go_enter Tryz.func59,Tryz.ntmps59);(go_wp2_with fail);go_ret;exact⟨ret_bool (by rw[HY.out,h0d];rfl),HB.out⟩
 have h0d:=eq_true0 h0;cases yc
 ·skip;(go_enter Tryz.func59,Tryz.ntmps59);(go_wp2_with(first|(refine loadMidG rfl 37 (.tmp 11) rfl w.heap.size 1 rfl (cl a.u.m) _ MA.out Tryz.underlying37 rfl infoCube ?_)|(refine loadMidG rfl 37 (.tmp 13) rfl (w.heap.size+1) 1 rfl (cl b.u.m) _ MB.out Tryz.underlying37 rfl infoCube ?_)));go_ret;exact⟨ret_bool (by rw[HY.out,h0d];rfl),HB.out⟩
 by_cases h1:a.u.p=b.u.p;rotate_left
 ·have h1d:=eq_false0 h1;(go_enter Tryz.func59,Tryz.ntmps59);(go_wp2_with(first|(refine loadMidG rfl 37 (.tmp 11) rfl w.heap.size 1 rfl (cl a.u.m) _ MA.out Tryz.underlying37 rfl infoCube ?_)|(refine loadMidG rfl 37 (.tmp 13) rfl (w.heap.size+1) 1 rfl (cl b.u.m) _ MB.out Tryz.underlying37 rfl infoCube ?_)));go_ret;exact⟨ret_bool (by rw[HY.out,h0d,h1d];rfl),HB.out⟩
 have h1d:=eq_true0 h1;cases ya
 ·skip;(go_enter Tryz.func59,Tryz.ntmps59);(go_wp2_with(first|(refine loadMidG rfl 37 (.tmp 11) rfl w.heap.size 1 rfl (cl a.u.m) _ MA.out Tryz.underlying37 rfl infoCube ?_)|(refine loadMidG rfl 37 (.tmp 13) rfl (w.heap.size+1) 1 rfl (cl b.u.m) _ MB.out Tryz.underlying37 rfl infoCube ?_)|(go_at_call 66;refine HC.out.mono ?_;rintro e w1 ⟨rfl,hw1⟩)));go_ret;exact⟨ret_bool (by rw[HY.out,h0d,h1d];rfl),HB.out.trans (hw1.mono HB.out.size)⟩
 (go_enter Tryz.func59,Tryz.ntmps59);(go_wp2_with(first|(refine loadMidG rfl 37 (.tmp 11) rfl w.heap.size 1 rfl (cl a.u.m) _ MA.out Tryz.underlying37 rfl infoCube ?_)|(refine loadMidG rfl 37 (.tmp 13) rfl (w.heap.size+1) 1 rfl (cl b.u.m) _ MB.out Tryz.underlying37 rfl infoCube ?_)|(go_at_call 66;refine HC.out.mono ?_;rintro e w1 ⟨rfl,hw1⟩;refine Hid.out ?_)));have RA1:=qH (RA.out.below hw1);have RB1:=qH (RB.out.below hw1);have HB1:=qH (HB.out.trans (hw1.mono HB.out.size));clear hw1 HC RA RB HB MA MB a0 a25 a26 b0 b25 b26 heq hgd;obtain⟨_,_,_,_,a27,a28,a29,a30⟩:=RA1.out.cellsM;obtain⟨_,_,_,_,b27,b28,b29,b30⟩:=RB1.out.cellsM;refine qH ?_;by_cases h2:a.u.idle=b.u.idle;rotate_left
 ·have h2d:=eq_false0 h2;(go_wp2_with fail);go_ret;exact⟨ret_bool (by rw[HY.out,h0d,h1d,h2d];rfl),HB1.out⟩
 have h2d:=eq_true0 h2;by_cases h3:a.u.hard=b.u.hard;rotate_left
 ·have h3d:=eq_false0 h3;(go_wp2_with fail);go_ret;exact⟨ret_bool (by rw[HY.out,h0d,h1d,h2d,h3d];rfl),HB1.out⟩
 have h3d:=eq_true0 h3;by_cases h4:a.u.owner=b.u.owner;rotate_left
 ·have h4d:=eq_false0 h4;(go_wp2_with fail);go_ret;exact⟨ret_bool (by rw[HY.out,h0d,h1d,h2d,h3d,h4d];rfl),HB1.out⟩
 have h4d:=eq_true0 h4;cases hca:a.u.chk<;>cases hcb:b.u.chk<;>rw[hca] at a30 HY<;>rw[hcb] at b30 HY
 ·(go_wp2_with fail);go_ret;exact⟨ret_bool (by rw[HY.out,h0d,h1d,h2d,h3d,h4d];rfl),HB1.out⟩
 ·(go_wp2_with fail);go_ret;exact⟨ret_bool (by rw[HY.out,h0d,h1d,h2d,h3d,h4d];rfl),HB1.out⟩
 ·(go_wp2_with fail);go_ret;exact⟨ret_bool (by rw[HY.out,h0d,h1d,h2d,h3d,h4d];rfl),HB1.out⟩
 ·(go_wp2_with fail);go_ret;exact⟨ret_bool (by rw[HY.out,h0d,h1d,h2d,h3d,h4d];rfl),HB1.out⟩
set_option maxHeartbeats 4000000 in
theorem msame_any (a b:Mm) (hb:b.u.acts.length≤140737488355328) (w:World) (la:InM a w) (lb:InM b w):Calls Tryz.prog 131 #[.agg (mca a),.agg (mca b)] w fun e w'=>e= .returned (.bool (mEq a.u b.u))∧Below w.heap.size w w':=by
 have RA:=qH (twoM_a w a b);have RB:=qH (twoM_b w a b);have HB:=qH (twoM_below w a b);have HC:=qH (asame_any (.slice a.q a.n a.c) (.slice b.q b.n b.c) a.u.acts b.u.acts hb _ (la.below HB.out) (lb.below HB.out));have heq:=eqlC a.u.m b.u.m;have hgd:=guardCube;have MA:=qH RA.out.cellsM.2.1;have MB:=qH RB.out.cellsM.2.1;obtain⟨a0,_,a25,a26,_⟩:=RA.out.cellsM;obtain⟨b0,_,b25,b26,_⟩:=RB.out.cellsM;obtain⟨y,hy⟩:∃y,y=mEq a.u b.u:=⟨_,rfl⟩;rw[←hy];unfold mEq at hy;have HY:=qH hy;clear hy la lb hb;generalize cEq a.u.m b.u.m=yc at*;generalize aEqL a.u.acts b.u.acts=ya at*;by_cases h0:a.u.kind=b.u.kind;rotate_left
 ·have h0d:=eq_false0 h0;(go_enter Tryz.func131,Tryz.ntmps131);(go_wp2_with fail);go_ret;exact⟨ret_bool (by rw[HY.out,h0d];rfl),HB.out⟩
 have h0d:=eq_true0 h0;cases yc
 ·skip;(go_enter Tryz.func131,Tryz.ntmps131);(go_wp2_with(first|(refine loadMidG rfl 37 (.tmp 11) rfl w.heap.size 1 rfl (cl a.u.m) _ MA.out Tryz.underlying37 rfl infoCube ?_)|(refine loadMidG rfl 37 (.tmp 13) rfl (w.heap.size+1) 1 rfl (cl b.u.m) _ MB.out Tryz.underlying37 rfl infoCube ?_)));go_ret;exact⟨ret_bool (by rw[HY.out,h0d];rfl),HB.out⟩
 by_cases h1:a.u.p=b.u.p;rotate_left
 ·have h1d:=eq_false0 h1;(go_enter Tryz.func131,Tryz.ntmps131);(go_wp2_with(first|(refine loadMidG rfl 37 (.tmp 11) rfl w.heap.size 1 rfl (cl a.u.m) _ MA.out Tryz.underlying37 rfl infoCube ?_)|(refine loadMidG rfl 37 (.tmp 13) rfl (w.heap.size+1) 1 rfl (cl b.u.m) _ MB.out Tryz.underlying37 rfl infoCube ?_)));go_ret;exact⟨ret_bool (by rw[HY.out,h0d,h1d];rfl),HB.out⟩
 have h1d:=eq_true0 h1;cases ya
 ·skip;(go_enter Tryz.func131,Tryz.ntmps131);(go_wp2_with(first|(refine loadMidG rfl 37 (.tmp 11) rfl w.heap.size 1 rfl (cl a.u.m) _ MA.out Tryz.underlying37 rfl infoCube ?_)|(refine loadMidG rfl 37 (.tmp 13) rfl (w.heap.size+1) 1 rfl (cl b.u.m) _ MB.out Tryz.underlying37 rfl infoCube ?_)|(go_at_call 150;refine HC.out.mono ?_;rintro e w1 ⟨rfl,hw1⟩)));go_ret;exact⟨ret_bool (by rw[HY.out,h0d,h1d];rfl),HB.out.trans (hw1.mono HB.out.size)⟩
 (go_enter Tryz.func131,Tryz.ntmps131);(go_wp2_with(first|(refine loadMidG rfl 37 (.tmp 11) rfl w.heap.size 1 rfl (cl a.u.m) _ MA.out Tryz.underlying37 rfl infoCube ?_)|(refine loadMidG rfl 37 (.tmp 13) rfl (w.heap.size+1) 1 rfl (cl b.u.m) _ MB.out Tryz.underlying37 rfl infoCube ?_)|(go_at_call 150;refine HC.out.mono ?_;rintro e w1 ⟨rfl,hw1⟩;refine Hid.out ?_)));have RA1:=qH (RA.out.below hw1);have RB1:=qH (RB.out.below hw1);have HB1:=qH (HB.out.trans (hw1.mono HB.out.size));clear hw1 HC RA RB HB MA MB a0 a25 a26 b0 b25 b26 heq hgd;obtain⟨_,_,_,_,a27,a28,a29,a30⟩:=RA1.out.cellsM;obtain⟨_,_,_,_,b27,b28,b29,b30⟩:=RB1.out.cellsM;refine qH ?_;by_cases h2:a.u.idle=b.u.idle;rotate_left
 ·have h2d:=eq_false0 h2;(go_wp2_with fail);go_ret;exact⟨ret_bool (by rw[HY.out,h0d,h1d,h2d];rfl),HB1.out⟩
 have h2d:=eq_true0 h2;by_cases h3:a.u.hard=b.u.hard;rotate_left
 ·have h3d:=eq_false0 h3;(go_wp2_with fail);go_ret;exact⟨ret_bool (by rw[HY.out,h0d,h1d,h2d,h3d];rfl),HB1.out⟩
 have h3d:=eq_true0 h3;by_cases h4:a.u.owner=b.u.owner;rotate_left
 ·have h4d:=eq_false0 h4;(go_wp2_with fail);go_ret;exact⟨ret_bool (by rw[HY.out,h0d,h1d,h2d,h3d,h4d];rfl),HB1.out⟩
 have h4d:=eq_true0 h4;cases hca:a.u.chk<;>cases hcb:b.u.chk<;>rw[hca] at a30 HY<;>rw[hcb] at b30 HY
 ·(go_wp2_with fail);go_ret;exact⟨ret_bool (by rw[HY.out,h0d,h1d,h2d,h3d,h4d];rfl),HB1.out⟩
 ·(go_wp2_with fail);go_ret;exact⟨ret_bool (by rw[HY.out,h0d,h1d,h2d,h3d,h4d];rfl),HB1.out⟩
 ·(go_wp2_with fail);go_ret;exact⟨ret_bool (by rw[HY.out,h0d,h1d,h2d,h3d,h4d];rfl),HB1.out⟩
 ·(go_wp2_with fail);go_ret;exact⟨ret_bool (by rw[HY.out,h0d,h1d,h2d,h3d,h4d];rfl),HB1.out⟩
end Go.Proofs.YtomnpfbebimpkaaGreatDoor
