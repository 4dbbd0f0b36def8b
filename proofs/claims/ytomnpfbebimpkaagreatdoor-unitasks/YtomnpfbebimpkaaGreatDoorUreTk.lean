/-
  What Take of the reference's unit needs: the parts of a unit written.
-/
import Derived.Test.YtomnpfbebimpkaaGreatDoorUreKeys
import Derived.Test.YtomnpfbebimpkaaGreatDoorPackUniK
import Derived.Test.YtomnpfbebimpkaaGreatDoorCodRmt
import Derived.Test.YtomnpfbebimpkaaGreatDoorSq
namespace Go.Proofs.YtomnpfbebimpkaaGreatDoor
set_option maxRecDepth 20000
open Go.RowKit
def AnsZ (v : Value) (gs : List Gm) (W : World) : Prop := KLies KG v gs W ∧ ∀ a ∈ gs, InG a W
theorem AnsZ.below {v:Value} {gs:List Gm} {W W':World} (h:AnsZ v gs W) (hb:Below W.heap.size W W'):AnsZ v gs W':=⟨h.1.below okG hb,fun a ha=>(h.2 a ha).below hb⟩
theorem AnsZ.nil (W:World):AnsZ (.slice none 0 0) [] W:=⟨.inl ⟨rfl,rfl⟩,fun a ha=>(by cases ha)⟩
theorem AnsZ.one {b:Nat} {g:Gm} {W:World} (h:Blk b (gca g) KG.T W) (hi:InG g W):AnsZ (.slice (some ⟨b,0,none⟩) 1 1) [g] W:=⟨Blk.klies (l:=[g]) h okG (by simp[Kd.flat,gca]),fun a ha=>by
 simp only[List.mem_cons,List.not_mem_nil,or_false] at ha;subst ha;exact hi⟩
def TkZ (z : Zu) (g : Gm) (w0 w : World) (e : Ending) (w' : World) : Prop :=
  ∃ (z' : Zu) (v : Value) (gs : List Gm), e = .returned v ∧ gs.map (·.u) = takeA z.un g.u ∧ AnsZ v gs w' ∧ z'.un = takeS z.un g.u ∧ RefA w0 z' w' ∧ z'.p = z.p ∧ ZFr z z' w w'
structure Bz (w0 : World) (z : Zu) (g : Gm) (b : Nat) (W : World) : Prop where
  z : RefA w0 z W
  box : Blk b (gca g) 42 W
  tab : Tab W
  lt : 0 < W.heap.size
structure CellsO (W : World) (b o : Nat) (t : Zt) : Prop where
  id : W.cell? ⟨b, o, none⟩ = some (.int .i64 t.id)
  l : W.cell? ⟨b, o + 1, none⟩ = some (.slice t.q t.n t.c)
  rf : W.cell? ⟨b, o + 2, none⟩ = some (.bool t.ref)
section
variable {w0 w W W' : World} {z z' : Zu} {g : Gm} {b i gO c B : Nat} {t x x' : Zt} {ts : List Zt}
theorem KOwns.cellsO (h:KOwns KO B (.slice (some ⟨gO,0,none⟩) ts.length c) ts W) (hi:ts[i]? =some t):CellsO W gO (i*3) t:=by
 have r:W.rangeAt gO (i*3) (zcl t):=(by have:=(h.lies okO).at' hi;rwa [Nat.zero_add] at this);exact⟨r 0 _ rfl,r 1 _ rfl,r 2 _ rfl⟩
theorem Bz.below (h:Bz w0 z g b W) (hb:Below W.heap.size W W'):Bz w0 z g b W':=⟨h.z.below hb,h.box.below hb,h.tab.below h.lt hb,by have:=hb.size;have:=h.lt;omega⟩
theorem Bz.inG (h:Bz w0 z g b W) (hi:InG g w0):InG g W:=hi.below h.z.bel
theorem Bz.ne (h:Bz w0 z g b W):b≠z.p:=Typ.ne h.box.typ h.z.box.typ (by decide)
theorem not_one {a b:Nat} (h:a≠b):a∉[b]:=fun hm=>by
 simp only[List.mem_cons,List.not_mem_nil,or_false] at hm;exact h hm
theorem RefA.mutP (h:RefA w0 z W):Muts [z.p] W:=fun g hg=>by
 simp only[List.mem_cons,List.not_mem_nil,or_false] at hg;subst hg;exact⟨_,by decide,h.box.typ⟩
theorem RefA.put (h:RefA w0 z W) (hp:z'.p=z.p) (hW:Blk z.p (zuca z') 30 W') (k:Fr [z.p] W W') (hb:KOwns KR w0.heap.size z'.vb z'.L W) (ha:∀y∈z'.L,InA y w0) (ho:KOwns KO w0.heap.size z'.vo z'.ts W) (ht:∀t∈z'.ts,KOwns KM w0.heap.size t.v t.ms W) (hm:∀t∈z'.ts,∀m∈t.ms,InM m w0):RefA w0 z' W':=⟨hp ▸ hW,hp ▸ h.ge,k.ownsT h.mutP hb notR,ha,k.owns ho fun _ hg=>not_one (Typ.ne (ho.typ hg) h.box.typ (by decide)),fun t htt=>k.owns (ht t htt) fun _ hg=>not_one (Typ.ne ((ht t htt).typ hg) h.box.typ (by decide)),hm,k.below (fun g hg=>by simp only[List.mem_cons,List.not_mem_nil,or_false] at hg;subst hg;exact h.ge) h.bel.size h.bel⟩
theorem ZFr.put (hb:Below w.heap.size w W) (k:Fr [z.p] W W') (hn:∀g∈z'.muts,g∈z.muts∨w.heap.size≤g):ZFr z z' w W':=⟨(Fr.of (M:=z.muts) hb).trans k fun g hg=> .inl (by simp only[List.mem_cons,List.not_mem_nil,or_false] at hg;subst hg;simp[Zu.muts]),hn⟩
theorem mem_muts:i∈z.muts↔i=z.p∨z.vo.ownBlock=some i∨∃t∈z.ts,t.v.ownBlock=some i:=by
 unfold Zu.muts;rw[List.mem_cons,List.mem_append,mem_ownL,mem_mutsZ];simp only[mem_ownL]
theorem RefA.row (h:RefA w0 z W) (hx:z.ts[i]? =some x) (hv:z.vo= .slice (some ⟨gO,0,none⟩) z.ts.length c) (k:Nat) (u:Value) (hk:k<3) (he:zcl x'=(zcl x).set k u) (ht:KOwns KM w0.heap.size x'.v x'.ms W) (hm:∀m∈x'.ms,InM m w0):RefA w0 { z with ts:=z.ts.set i x'} (W.setCell ⟨gO,i*3+k,none⟩ u):=by
 have ho:=h.opn;rw[hv] at ho;obtain⟨hA,hge⟩:=KAt.of okO ho;have hA2:=hA.cell okO hx (a':=x') u hk he;have hO2:=hA2.owns okO hge;rw[List.length_set] at hO2;have htg:Typ W gO KO.T:=ho.typ rfl;have kF:Fr [gO] W (W.setCell ⟨gO,i*3+k,none⟩ u):=Fr.cell W ⟨gO,i*3+k,none⟩ u (by simp);have hMu:Muts [gO] W:=fun g hg=>(by simp only[List.mem_cons,List.not_mem_nil,or_false] at hg;subst hg;exact⟨_,notM,htg⟩);refine⟨kF.blk h.box (not_one (Typ.ne h.box.typ htg (by decide))),h.ge,kF.ownsT hMu h.base notR,h.acts,?_,fun t htt=>?_,fun t htt=>?_,kF.below (fun g hg=>by simp only[List.mem_cons,List.not_mem_nil,or_false] at hg;subst hg;exact hge) h.bel.size h.bel⟩
 ·show KOwns KO w0.heap.size z.vo (z.ts.set i x') _;rw[hv];exact hO2
 ·rcases List.mem_or_eq_of_mem_set htt with q|rfl
  ·exact kF.owns (h.txs t q) fun _ hg=>not_one (Typ.ne ((h.txs t q).typ hg) htg (by decide))
  ·exact kF.owns ht fun _ hg=>not_one (Typ.ne (ht.typ hg) htg (by decide))
 ·rcases List.mem_or_eq_of_mem_set htt with q|rfl
  ·exact h.mods t q
  ·exact hm
theorem ZFr.row (hb:Below w.heap.size w W) (hv:z.vo= .slice (some ⟨gO,0,none⟩) z.ts.length c) (a:Addr) (u:Value) (ha:a.block=gO) (hn:∀k,x'.v.ownBlock=some k→k∈z.muts∨w.heap.size≤k):ZFr z { z with ts:=z.ts.set i x'} w (W.setCell a u):=by
 have hg:gO∈z.muts:=mem_muts.2 (.inr (.inl (by rw[hv];rfl)));refine⟨(Fr.of (M:=z.muts) hb).trans (Fr.cell W a u (M:=z.muts) (ha ▸ hg)) fun g hg=> .inl hg,fun g hg=>?_⟩;rcases mem_muts.1 hg with q|q|⟨t,ht,q⟩
 ·exact .inl (mem_muts.2 (.inl q))
 ·exact .inl (mem_muts.2 (.inr (.inl q)))
 ·rcases List.mem_or_eq_of_mem_set ht with r|rfl
  ·exact .inl (mem_muts.2 (.inr (.inr ⟨t,r,q⟩)))
  ·exact hn g q
theorem Bz.put (h:Bz w0 z g b W) (hz0:0<w0.heap.size) (hp:z'.p=z.p) (hW:Blk z.p (zuca z') 30 W') (k:Fr [z.p] W W') (hb:KOwns KR w0.heap.size z'.vb z'.L W) (ha:∀y∈z'.L,InA y w0) (ho:KOwns KO w0.heap.size z'.vo z'.ts W) (ht:∀t∈z'.ts,KOwns KM w0.heap.size t.v t.ms W) (hm:∀t∈z'.ts,∀m∈t.ms,InM m w0):Bz w0 z' g b W':=⟨h.z.put hp hW k hb ha ho ht hm,k.blk h.box (not_one h.ne),h.tab.belowAt hz0 (k.below (fun g hg=>by simp only[List.mem_cons,List.not_mem_nil,or_false] at hg;subst hg;exact h.z.ge) h.z.bel.size (Below.refl _ _)),by have:=k.size;have:=h.lt;omega⟩
theorem Bz.row (h:Bz w0 z g b W) (hz0:0<w0.heap.size) (hx:z.ts[i]? =some x) (hv:z.vo= .slice (some ⟨gO,0,none⟩) z.ts.length c) (k:Nat) (u:Value) (hk:k<3) (he:zcl x'=(zcl x).set k u) (ht:KOwns KM w0.heap.size x'.v x'.ms W) (hm:∀m∈x'.ms,InM m w0):Bz w0 { z with ts:=z.ts.set i x'} g b (W.setCell ⟨gO,i*3+k,none⟩ u):=by
 have ho:=h.z.opn;rw[hv] at ho;have htg:Typ W gO KO.T:=ho.typ rfl;have kF:Fr [gO] W (W.setCell ⟨gO,i*3+k,none⟩ u):=Fr.cell W ⟨gO,i*3+k,none⟩ u (by simp);exact⟨h.z.row hx hv k u hk he ht hm,kF.blk h.box (not_one (Typ.ne h.box.typ htg (by decide))),h.tab.belowAt hz0 (kF.below (fun g hg=>by simp only[List.mem_cons,List.not_mem_nil,or_false] at hg;subst hg;exact(ho.blkRange rfl).1) h.z.bel.size (Below.refl _ _)),by have:=kF.size;have:=h.lt;omega⟩
end
def atI (ts : List Zt) (t : Int) (r : Nat) : Int := if plO (ts.map (·.tx)) t < r then (plO (ts.map (·.tx)) t : Int) else -1
section
variable {ts : List Zt} {t : Int} {r : Nat} {x : Zt}
theorem plO_at (hn:((ts.map (·.tx)).map (·.id)).Nodup) (hx:ts[r]? =some x):x.id=t↔plO (ts.map (·.tx)) t=r:=by
 have hx':(ts.map (·.tx))[r]? =some x.tx:=(by rw[List.getElem?_map,hx];rfl);have hr:r<(ts.map (·.tx)).length:=(List.getElem?_eq_some_iff.1 hx').1;constructor
 ·intro e;by_cases hl:plO (ts.map (·.tx)) t<(ts.map (·.tx)).length
  ·obtain⟨y,hy,ey⟩:=plO_lt rfl hl;have h1:((ts.map (·.tx)).map (·.id))[plO (ts.map (·.tx)) t]? =some t:=(by rw[List.getElem?_map,hy];simp[ey]);have h2:((ts.map (·.tx)).map (·.id))[r]? =some t:=(by rw[List.getElem?_map,hx'];simp[Zt.tx,e]);have hl':plO (ts.map (·.tx)) t<((ts.map (·.tx)).map (·.id)).length:=(by rw[List.length_map];exact hl);exact(List.getElem?_inj hl' hn).1 (h1.trans h2.symm)
  ·exact absurd e (plO_none hl x.tx (List.mem_of_getElem? hx'))
 ·intro e;obtain⟨y,hy,ey⟩:=plO_lt e (by omega);rw[hx'] at hy;injection hy with hy;subst hy;exact ey
theorem atI_hit (hn:((ts.map (·.tx)).map (·.id)).Nodup) (hx:ts[r]? =some x) (h:x.id=t):atI ts t (r+1)=r:=by
 have e:=(plO_at hn hx).1 h;unfold atI;rw[e,if_pos (by omega)]
theorem atI_miss (hn:((ts.map (·.tx)).map (·.id)).Nodup) (hx:ts[r]? =some x) (h:x.id≠t):atI ts t (r+1)=atI ts t r:=by
 have e:plO (ts.map (·.tx)) t≠r:=fun q=>h ((plO_at hn hx).2 q);unfold atI;by_cases hl:plO (ts.map (·.tx)) t<r
 ·rw[if_pos hl,if_pos (by omega)]
 ·rw[if_neg hl,if_neg (by omega)]
theorem atI_in (h:plO (ts.map (·.tx)) t<r):atI ts t r=(plO (ts.map (·.tx)) t:Int):=if_pos h
theorem atI_no (h:¬plO (ts.map (·.tx)) t<r):atI ts t r= -1:=if_neg h
theorem atI_nil:atI ts t 0= -1:=by unfold atI;rw[if_neg (by omega)]
end
theorem infoSO:(Tryz.prog.info? 28).map (·.size)=some 1:=by kernel_rfl
def newZ (t : Int) : Zt := ⟨t, none, 0, 0, [], false⟩
theorem zeroO:((Tryz.prog.info? KO.T).bind (·.zero)).map (·.cells)=some #[.int .i64 0,.slice none 0 0,.bool false]:=by kernel_rfl
theorem fillO (x:Zt):Instr.fill (fun i'=>some (i'*3,3)) ((Array.range (1*3)).map ((#[.int .i64 0,.slice none 0 0,.bool false]:Array Value)[· % (#[.int .i64 0,.slice none 0 0,.bool false]:Array Value).size]!)) [(0,.agg (zcl x).toArray)]=some (zcl x).toArray:=by kernel_rfl
theorem builtO (t:Int):Tryz.prog.built 52 [(0,.int .i64 t)]=some (zcl (newZ t)).toArray:=by kernel_rfl
theorem execO {a:Act} {oi:Oper} {w:World} {x:Operand} (ho:oi.op= .build 52 #[(0,x)]) (t:Int) (hx:a.eval x= .int .i64 t):(execOp a.eval oi).run Tryz.prog w= .ok (.value (.agg (zcl (newZ t)).toArray)) w:=by
 have e:(Instr.build 52 #[(0,.int .i64 t)]).run Tryz.prog w= .ok (.agg (zcl (newZ t)).toArray) w:=run_build w _ _ _ (builtO t);unfold execOp;simp only[ho,List.map_toArray,List.map_cons,List.map_nil,hx,Sem.run_bind,e,Result.andThen_ok,Sem.run_pure]
theorem elemO:Tryz.prog.underlying 28=some (.slice (Tryz.prog.elem 28)):=by kernel_rfl
theorem sizeO (w:World):(Go.sizeOf (Tryz.prog.elem 28)).run Tryz.prog w= .ok 3 w:=by
 obtain⟨i,z,hi,_,hs,_,_⟩:=okO.info;have e:Tryz.prog.elem 28=KO.T:=(by kernel_rfl);rw[e];simp[Go.sizeOf,typeInfo,hi,hs]
theorem execFromO {a:Act} {oi:Oper} {w:World} {x y:Operand} (ho:oi.op= .slice 28 x (some y) none none) (p:Option Addr) (len cap c:Nat) (hx:a.eval x= .slice p len cap) (hy:a.eval y= .int .i64 (c:Int)) (hc:c≤len):(execOp a.eval oi).run Tryz.prog w= .ok (.value (fromV 3 p len cap c)) w:=by
 unfold execOp;simp only[ho,hx,Option.map_some,Option.map_none,hy,Sem.run_bind];rw[run_sliceAt_slice (h:=elemO),run_slice_l (ht:=elemO) (h0:=by omega) (h1:=by omega),sizeO];simp[Result.andThen,sliced,fromV]
theorem execUptoO {a:Act} {oi:Oper} {w:World} {x y:Operand} (ho:oi.op= .slice 28 x none (some y) none) (p:Option Addr) (len cap c:Nat) (hx:a.eval x= .slice p len cap) (hy:a.eval y= .int .i64 (c:Int)) (hc:c≤len) (hl:len≤cap):(execOp a.eval oi).run Tryz.prog w= .ok (.value (.slice p c cap)) w:=by
 unfold execOp;simp only[ho,hx,Option.map_some,Option.map_none,hy,Sem.run_bind];rw[run_sliceAt_slice (h:=elemO),run_slice_h (ht:=elemO) (h0:=by omega) (h2:=by omega),sizeO];have e:(if cap=0 then p else p.map (·.add (0*3)))=p:=by
  split
  ·rfl
  ·cases p with
   |none=>rfl
   |some ad=>simp[Addr.add]
 simp only[Result.andThen,sliced,Int.toNat_natCast,Nat.sub_zero,e];rfl
end Go.Proofs.YtomnpfbebimpkaaGreatDoor
