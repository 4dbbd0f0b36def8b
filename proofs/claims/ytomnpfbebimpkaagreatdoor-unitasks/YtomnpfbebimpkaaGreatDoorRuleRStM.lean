/-
  Rules in memory, sorted; parts of slices.
-/
import Derived.Test.YtomnpfbebimpkaaGreatDoorPackSort
import Derived.Test.YtomnpfbebimpkaaGreatDoorSlFrom
import Derived.Test.YtomnpfbebimpkaaGreatDoorSq
namespace Go.Proofs.YtomnpfbebimpkaaGreatDoor
set_option maxRecDepth 20000
open Go.RowKit
def mOrd (a b : Rm) : Int := rOrd a.u b.u
theorem mOrd_ordd:Ordd mOrd where
 neg:=fun a b=>rOrd_ordd.neg a.u b.u
 trans:=fun a b c=>rOrd_ordd.trans a.u b.u c.u
theorem map_ins (x:Rm):∀L:List Rm,(ins mOrd x L).map (·.u)=ins rOrd x.u (L.map (·.u))
 |[]=>rfl
 |y::L=>by
  show(if rOrd y.u x.u<0 then y::ins mOrd x L else if rOrd y.u x.u=0 then x::L else x::y::L).map (·.u)=if rOrd y.u x.u<0 then y.u::ins rOrd x.u (L.map (·.u)) else if rOrd y.u x.u=0 then x.u::L.map (·.u) else x.u::y.u::L.map (·.u);split
  ·rw[List.map_cons,map_ins x L]
  ·split<;>rfl
theorem map_insAll:∀(l acc:List Rm),(insAll mOrd acc l).map (·.u)=insAll rOrd (acc.map (·.u)) (l.map (·.u))
 |[],_=>rfl
 |x::l,acc=>by rw[insAll_cons,map_insAll l,map_ins,List.map_cons,insAll_cons]
def tblM (l : List Rm) : List Rm := srtL mOrd (l.filter fun x => sndR x.u)
theorem tblM_map (l:List Rm):(tblM l).map (·.u)=tblOf (l.map (·.u)):=by
 unfold tblM tblOf srtL;rw[map_insAll,List.filter_map];rfl
theorem tblM_sub {l:List Rm} {x:Rm} (h:x∈tblM l):x∈l:=(List.mem_filter.1 (srtL_sub mOrd_ordd h)).1
theorem tblM_len (l:List Rm):(tblM l).length≤l.length:=Nat.le_trans (srtL_len _) (List.length_filter_le _ _)
section
variable {l L : List Rm} {r c : Nat} {x y : Rm}
theorem tblM_skip (hx:l[r]? =some x) (hs:sndR x.u=false):tblM (l.take (r+1))=tblM (l.take r):=by
 rw[List.take_add_one,hx];unfold tblM;rw[List.filter_append];simp[hs]
theorem tblM_snoc (hx:l[r]? =some x) (hs:sndR x.u=true):tblM (l.take (r+1))=ins mOrd x (tblM (l.take r)):=by
 rw[List.take_add_one,hx];unfold tblM;rw[List.filter_append,show(some x).toList.filter (fun x=>sndR x.u)=[x] by simp[hs],srtL_snoc]
theorem ins_same (hc:∀(j:Nat) z,j<c→L[j]? =some z→rOrd z.u x.u<0) (hy:L[c]? =some y) (h0:rOrd y.u x.u=0):ins mOrd x L=L.take c++x::L.drop (c+1):=by
 rw[ins_set (ord:=mOrd) x L c y hc hy h0,List.set_eq_take_append_cons_drop,if_pos (List.getElem?_eq_some_iff.1 hy).1]
theorem ins_new (hcl:c≤L.length) (hc:∀(j:Nat) z,j<c→L[j]? =some z→rOrd z.u x.u<0) (hn:∀y,L[c]? =some y→0<rOrd y.u x.u):ins mOrd x L=L.take c++x::L.drop c:=ins_put (ord:=mOrd) x L c hcl hc hn
end
theorem elemR:Tryz.prog.underlying 27=some (.slice (Tryz.prog.elem 27)):=by kernel_rfl
theorem sizeElR (w:World):(Go.sizeOf (Tryz.prog.elem 27)).run Tryz.prog w= .ok 32 w:=Tryz.sizeOf88 w
theorem execFrom {a:Act} {oi:Oper} {w:World} {x y:Operand} (ho:oi.op= .slice 27 x (some y) none none) (p:Option Addr) (len cap c:Nat) (hx:a.eval x= .slice p len cap) (hy:a.eval y= .int .i64 (c:Int)) (hc:c≤len):(execOp a.eval oi).run Tryz.prog w= .ok (.value (fromV 32 p len cap c)) w:=by
 unfold execOp;simp only[ho,hx,Option.map_some,Option.map_none,hy,Sem.run_bind];rw[run_sliceAt_slice (h:=elemR),run_slice_l (ht:=elemR) (h0:=by omega) (h1:=by omega),sizeElR];simp[Result.andThen,sliced,fromV]
end Go.Proofs.YtomnpfbebimpkaaGreatDoor
