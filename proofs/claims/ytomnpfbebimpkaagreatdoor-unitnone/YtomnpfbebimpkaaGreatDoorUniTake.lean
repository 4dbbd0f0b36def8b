/-
  Take: a unit handles a message.
-/
import Derived.Test.YtomnpfbebimpkaaGreatDoorUniSet
import Derived.Test.YtomnpfbebimpkaaGreatDoorUniEnd
import Derived.Test.YtomnpfbebimpkaaGreatDoorCodSnd
namespace Go.Proofs.YtomnpfbebimpkaaGreatDoor
set_option maxRecDepth 20000
open Go.RowKit

theorem infoSR : (Tryz.prog.info? 27).map (·.size) = some 1 := by kernel_rfl
/-- what Take gives -/
def TakeRet (x : Um) (B : Nat) (g : Gm) (w : World) (e : Ending) (w' : World) : Prop :=
  ∃ (x' : Um) (v : Value) (gs : List Gm), e = .returned v ∧ gs.map (·.u) = takeA x.un g.u ∧ AnsL w.heap.size v gs w' ∧ x'.un = takeS x.un g.u ∧ UniA B x' w' ∧ x'.p = x.p ∧ UFr x x' w w'
section
variable {s : Un} {m : Ms}
theorem takeA_no (h : sndMs m = false) : takeA s m = [errM m.txn 2] := by unfold takeA; rw [if_pos h]
theorem takeS_no (h : sndMs m = false) : takeS s m = s := by unfold takeS; rw [if_pos h]
theorem sndNot (h : sndMs m = true) : ¬ sndMs m = false := by rw [h]; decide
theorem takeA_mod (h : sndMs m = true) (hk : m.kind = 1) : takeA s m = errL m.txn (chgE s m.txn m.mod) := by unfold takeA; rw [if_neg (sndNot h), if_pos hk]
theorem takeS_mod (h : sndMs m = true) (hk : m.kind = 1) : takeS s m = chgS s m.txn m.mod := by unfold takeS; rw [if_neg (sndNot h), if_pos hk]
theorem takeA_bar (h : sndMs m = true) (hk : m.kind = 2) : takeA s m = [⟨7, m.txn, 0, zMu, 0, zHd, []⟩] := by unfold takeA; rw [if_neg (sndNot h), if_neg (by omega), if_pos hk]
theorem takeS_oth (h1 : m.kind ≠ 1) (h3 : m.kind ≠ 3) (h4 : m.kind ≠ 4) : takeS s m = s := by
  unfold takeS
  by_cases h : sndMs m = false
  · rw [if_pos h]
  · rw [if_neg h, if_neg h1, if_neg h3, if_neg h4]
theorem takeA_ask (h : sndMs m = true) (hk : m.kind = 5) : takeA s m = [⟨10, m.txn, 0, zMu, 0, zHd, s.base⟩] := by unfold takeA; rw [if_neg (sndNot h), if_neg (by omega), if_neg (by omega), if_pos hk]
theorem takeA_end (h : sndMs m = true) (hk : m.kind = 3 ∨ m.kind = 4) : takeA s m = [] := by unfold takeA; rw [if_neg (sndNot h), if_neg (by omega), if_neg (by omega), if_neg (by omega), if_pos hk]
theorem takeA_oth (h : sndMs m = true) (hk : 5 < m.kind) : takeA s m = [errM m.txn 2] := by unfold takeA; rw [if_neg (sndNot h), if_neg (by omega), if_neg (by omega), if_neg (by omega), if_neg (by omega)]
theorem takeS_commit {x : Um} {v vo : Value} {L : List Rm} {ms : List Mm} {ts : List Tm} (h : sndMs m = true) (hk : m.kind = 3) (hL : L.map (·.u) = layL (x.L.map (·.u)) (ms.map (·.u))) (hm : ms.map (·.u) = endB x.un m.txn) (ht : ts.map (·.tx) = endO x.un m.txn) :
    takeS x.un m = (⟨x.p, x.room, v, L, vo, ts, x.fail⟩ : Um).un := by
  unfold takeS
  rw [if_neg (sndNot h), if_neg (by omega), if_pos hk]
  show (⟨x.room, layL x.un.base (endB x.un m.txn), endO x.un m.txn, x.fail⟩ : Un) = ⟨x.room, L.map (·.u), ts.map (·.tx), x.fail⟩
  rw [hL, hm, ht]
  rfl
theorem takeS_undo {x : Um} {vo : Value} {ts : List Tm} (h : sndMs m = true) (hk : m.kind = 4) (ht : ts.map (·.tx) = endO x.un m.txn) : takeS x.un m = (⟨x.p, x.room, x.vb, x.L, vo, ts, x.fail⟩ : Um).un := by
  unfold takeS
  rw [if_neg (sndNot h), if_neg (by omega), if_neg (by omega), if_pos hk]
  show (⟨x.room, x.un.base, endO x.un m.txn, x.fail⟩ : Un) = ⟨x.room, x.L.map (·.u), ts.map (·.tx), x.fail⟩
  rw [ht]
  rfl
theorem snd_kinds (h : sndMs m = true) : m.kind = 1 ∨ m.kind = 2 ∨ m.kind = 3 ∨ m.kind = 4 ∨ m.kind = 5 ∨ 5 < m.kind := by
  unfold sndMs at h
  rw [Bool.and_eq_true] at h
  have h := h.2
  split at h
  · exact .inl (by assumption)
  split at h
  · omega
  split at h
  · omega
  split at h
  · omega
  split at h
  · omega
  · simp only [Bool.and_eq_true, decide_eq_true_eq] at h
    omega
end
theorem un_base (x : Um) (B k : Nat) (hF : FitM k x) (w : World) (h : UniA B x w) : Calls Tryz.prog 15 #[.pointer (some ⟨x.p, 0, none⟩)] w (LayRet w.heap.size w x.un.base) := by
  obtain ⟨pb, cb, hvb⟩ := h.base.1.form
  have c1 : w.cell? ⟨x.p, 1, none⟩ = some (.slice pb x.L.length cb) := by rw [← hvb]; exact h.vb_
  have HC := Lib.hid (copy_any (.slice pb x.L.length cb) x.L (by have := hF.len; omega) hF.wfR w (by rw [← hvb]; exact h.base.lies))
  clear h hF hvb
  go_enter Tryz.func15, Tryz.ntmps15
  go_wp2_with (go_at_call 35; refine HC.out.mono ?_; rintro e w1 ⟨g, L, rfl, hu, hc⟩)
  go_ret
  exact ⟨_, L, rfl, hu, ⟨KAt.owns okR hc.1 hc.2.2.2, fun y hy => (hc.2.1 y hy).mono (by have := hc.2.2.2; omega)⟩, hc.2.2.1⟩
/-- the answer to a question -/
def staG (t : Int) (q : Option Addr) (L : List Rm) (c : Nat) : Gm := ⟨10, t, 0, zMm, 0, zHd, q, L.length, c, L⟩
def barG (t : Int) : Gm := ⟨7, t, 0, zMm, 0, zHd, none, 0, 0, []⟩
theorem builtSta (t : Int) (q : Option Addr) (L : List Rm) (c : Nat) : Tryz.prog.built 42 [(0, .int .i64 10), (1, .int .i64 t), (6, .slice q L.length c)] = some (gca (staG t q L c)) := by kernel_rfl
theorem execSta {a : Act} {oi : Oper} {w : World} {x y z : Operand} (ho : oi.op = .build 42 #[(0, x), (1, y), (6, z)]) (t : Int) (q : Option Addr) (L : List Rm) (c : Nat) (hx : a.eval x = .int .i64 10) (hy : a.eval y = .int .i64 t) (hz : a.eval z = .slice q L.length c) :
    (execOp a.eval oi).run Tryz.prog w = .ok (.value (.agg (gca (staG t q L c)))) w := by
  have e : (Instr.build 42 #[(0, .int .i64 10), (1, .int .i64 t), (6, .slice q L.length c)]).run Tryz.prog w = .ok (.agg (gca (staG t q L c))) w := run_build w _ _ _ (builtSta t q L c)
  unfold execOp
  simp only [ho, List.map_toArray, List.map_cons, List.map_nil, hx, hy, hz, Sem.run_bind, e, Result.andThen_ok, Sem.run_pure]
theorem builtBar (t : Int) : Tryz.prog.built 42 [(0, .int .i64 7), (1, .int .i64 t)] = some (gca (barG t)) := by kernel_rfl
theorem buildBar {ops : Array Oper} {rest : List Oper} {o : Oper} {a : Act} {w : World} {Q : Exit → Act → World → Prop} (hg : o.guard = none) (x y : Operand) (ho : o.op = .build 42 #[(0, x), (1, y)]) (t : Int) (hx : a.eval x = .int .i64 7) (hy : a.eval y = .int .i64 t)
    (k : wpList Tryz.prog ops Q rest (a.put o.dst (.agg (gca (barG t)))) w) : wpList Tryz.prog ops Q (o :: rest) a w := by
  have e : ((#[(0, x), (1, y)] : Array (Nat × Operand)).map fun (p : Nat × Operand) => (p.1, a.eval p.2)).toList = [(0, .int .i64 7), (1, .int .i64 t)] := by simp [hx, hy]
  have e' := congrArg (Tryz.prog.built 42) e
  rw [builtBar] at e'
  refine wpList_build hg 42 _ ho (by rw [e']; rfl) ?_
  rw [e']
  exact k
set_option maxHeartbeats 2000000 in
set_option maxRecDepth 100000 in
theorem un_take_no (x : Um) (B k : Nat) (hF : FitM k x) (hk : k + 1 ≤ 9000) (g : Gm) (hw : WfMs g.u) (w : World) (h : UniA B x w) (hi : InG g w) (hs : StM B g.mod w) (ht : Tab w) (hz : 0 < B) (hsnd : sndMs g.u = false) :
    Calls Tryz.prog 19 #[.pointer (some ⟨x.p, 0, none⟩), .agg (gca g)] w (TakeRet x B g w) := by
  have R0 := Lib.hid (Blk.new w (gca g) 42)
  have HB0 := Lib.hid (below1 w (.cells (gca g) 42))
  have HU0 := Lib.hid (h.below HB0.out)
  have HI0 := Lib.hid (hs.below HB0.out)
  have HN0 := Lib.hid (show w.heap.size ∉ x.muts from fun hm => by have := h.muts.lt _ hm; omega)
  have HT0 := Lib.hid (Env.at_ ht hz (HB0.out.mono (by have := h.lt; have := h.ge; omega)) (by have := h.lt; have := h.ge; omega))
  have HSo := Lib.hid (msnd_any g hw _ (hi.below HB0.out) HT0.out.1 HT0.out.2)
  have HF := Lib.hid hF
  have HK := Lib.hid hk
  have HWM := Lib.hid hw.mod
  have HZ := Lib.hid hz
  have HSND := Lib.hid hsnd
  rw [hsnd] at HSo
  clear h hi hs ht hF hk hw hsnd
  go_enter Tryz.func19, Tryz.ntmps19
  obtain ⟨b0, hb0⟩ : ∃ b0, b0 = w.heap.size := ⟨_, rfl⟩
  rw [← hb0] at R0 HN0
  go_upto_region 1 with fail
  rw [← hb0]
  clear hb0
  generalize hW0 : w.alloc (.cells (gca g) 42) = w0 at *
  clear hW0
  go_upto_region 4 with (first
    | (refine wpList_load_row rfl 42 _ rfl b0 rfl 42 (gca g) (0, 0) _ R0.out Tryz.underlying42 rfl infoG ?_)
    | (go_at_call 39; refine HSo.out.mono ?_; rintro e w1 ⟨rfl, hw1⟩; refine Hid.out ?_))
  have R1 := Lib.hid (R0.out.below hw1)
  have HU1 := Lib.hid (HU0.out.below hw1)
  have HI1 := Lib.hid (HI0.out.below hw1)
  have HT1 := Lib.hid (show Tab w1 ∧ 0 < w1.heap.size from ⟨HT0.out.1.below HT0.out.2 hw1, by have := hw1.size; have := HT0.out.2; omega⟩)
  have HB1 := Lib.hid (HB0.out.trans (hw1.mono HB0.out.size))
  have k0 := R1.out.cellsG.kind
  have k1 := R1.out.cellsG.txn
  clear hw1 R0 HU0 HI0 HT0 HB0 HSo
  refine Lib.hid ?_
  have HR := Lib.hid (un_refusal g.txn 2 w1)
  go_wp2_with (go_at_call 40; refine HR.out.mono ?_; rintro e w2 ⟨va, gs, rfl, hgs, hav, hw2⟩)
  go_ret
  exact ⟨x, _, gs, rfl, by rw [hgs, takeA_no HSND.out]; rfl, hav.mono HB1.out.size, (takeS_no HSND.out).symm, HU1.out.below hw2, rfl, UFr.of x (HB1.out.trans (hw2.mono HB1.out.size))⟩
set_option maxHeartbeats 2000000 in
set_option maxRecDepth 100000 in
theorem un_take_mod (x : Um) (B k : Nat) (hF : FitM k x) (hk : k + 1 ≤ 9000) (g : Gm) (hw : WfMs g.u) (w : World) (h : UniA B x w) (hi : InG g w) (hs : StM B g.mod w) (ht : Tab w) (hz : 0 < B) (hsnd : sndMs g.u = true) (hkd : g.kind = 1) :
    Calls Tryz.prog 19 #[.pointer (some ⟨x.p, 0, none⟩), .agg (gca g)] w (TakeRet x B g w) := by
  have hk1 : (g.kind == 1) = true := by rw [hkd]; rfl
  have hk2 : (g.kind == 2) = false := by rw [hkd]; rfl
  have hk5 : (g.kind == 5) = false := by rw [hkd]; rfl
  have hk3 : (g.kind == 3) = false := by rw [hkd]; rfl
  have hk4 : (g.kind == 4) = false := by rw [hkd]; rfl
  have HKD := Lib.hid hkd
  clear hkd
  have R0 := Lib.hid (Blk.new w (gca g) 42)
  have HB0 := Lib.hid (below1 w (.cells (gca g) 42))
  have HU0 := Lib.hid (h.below HB0.out)
  have HI0 := Lib.hid (hs.below HB0.out)
  have HN0 := Lib.hid (show w.heap.size ∉ x.muts from fun hm => by have := h.muts.lt _ hm; omega)
  have HT0 := Lib.hid (Env.at_ ht hz (HB0.out.mono (by have := h.lt; have := h.ge; omega)) (by have := h.lt; have := h.ge; omega))
  have HSo := Lib.hid (msnd_any g hw _ (hi.below HB0.out) HT0.out.1 HT0.out.2)
  have HF := Lib.hid hF
  have HK := Lib.hid hk
  have HWM := Lib.hid hw.mod
  have HZ := Lib.hid hz
  have HSND := Lib.hid hsnd
  rw [hsnd] at HSo
  clear h hi hs ht hF hk hw hsnd
  go_enter Tryz.func19, Tryz.ntmps19
  obtain ⟨b0, hb0⟩ : ∃ b0, b0 = w.heap.size := ⟨_, rfl⟩
  rw [← hb0] at R0 HN0
  go_upto_region 1 with fail
  rw [← hb0]
  clear hb0
  generalize hW0 : w.alloc (.cells (gca g) 42) = w0 at *
  clear hW0
  go_upto_region 5 with (first
    | (refine wpList_load_row rfl 42 _ rfl b0 rfl 42 (gca g) (0, 0) _ R0.out Tryz.underlying42 rfl infoG ?_)
    | (go_at_call 39; refine HSo.out.mono ?_; rintro e w1 ⟨rfl, hw1⟩; refine Hid.out ?_))
  have R1 := Lib.hid (R0.out.below hw1)
  have HU1 := Lib.hid (HU0.out.below hw1)
  have HI1 := Lib.hid (HI0.out.below hw1)
  have HT1 := Lib.hid (show Tab w1 ∧ 0 < w1.heap.size from ⟨HT0.out.1.below HT0.out.2 hw1, by have := hw1.size; have := HT0.out.2; omega⟩)
  have HB1 := Lib.hid (HB0.out.trans (hw1.mono HB0.out.size))
  have k0 := R1.out.cellsG.kind
  have k1 := R1.out.cellsG.txn
  clear hw1 R0 HU0 HI0 HT0 HB0 HSo
  refine Lib.hid ?_
  go_upto_region 7 with fail
  have HBW := Lib.hid (HB1.out.trans ((show Below w1.heap.size w1 w1.drew from (Below.refl _ _).drew).mono HB1.out.size))
  have HU := Lib.hid (HU1.out.below (show Below w1.heap.size w1 w1.drew from (Below.refl _ _).drew))
  have HI := Lib.hid (HI1.out.below (show Below w1.heap.size w1 w1.drew from (Below.refl _ _).drew))
  have HT := Lib.hid (show Tab w1.drew ∧ 0 < w1.drew.heap.size from ⟨HT1.out.1.below HT1.out.2 (Below.refl _ _).drew, HT1.out.2⟩)
  have HN := HN0
  refine wp_region_held_drew (S := fun W' => Blk b0 (gca g) 42 W') (by kernel_rfl) (show Blk b0 (gca g) 42 w1.drew from R1.out.drew) (fun hS => ?_)
  clear k0 k1 R1 HU1 HI1 HT1 HB1 HN0
  generalize w1.drew = W at *
  refine seqRead 0 (v := _) rfl (by kernel_rfl) (by kernel_rfl) (by kernel_rfl) (fun _ _ _ h => h) rfl (fun w hSw => by go_simp <;> with_reducible rfl) hS ?_
  try simp only [Act.put, List.setIfInBounds_toArray, List.set_cons_zero, List.set_cons_succ]
  refine seqRead 1 (v := _) rfl (by kernel_rfl) (by kernel_rfl) (by kernel_rfl) (fun _ _ _ h => h) rfl (fun w hSw => by have c := hSw.cellsG.txn; go_simp <;> with_reducible rfl) hS ?_
  try simp only [Act.put, List.setIfInBounds_toArray, List.set_cons_zero, List.set_cons_succ]
  refine seqRead 2 (v := _) rfl (by kernel_rfl) (by kernel_rfl) (by kernel_rfl) (fun _ _ _ h => h) rfl (fun w hSw => by go_simp <;> with_reducible rfl) hS ?_
  try simp only [Act.put, List.setIfInBounds_toArray, List.set_cons_zero, List.set_cons_succ]
  refine seqRead 3 (v := _) rfl (by kernel_rfl) (by kernel_rfl) (by kernel_rfl) (fun _ _ _ h => h) rfl (fun w hSw => by go_simp <;> with_reducible rfl) hS ?_
  try simp only [Act.put, List.setIfInBounds_toArray, List.set_cons_zero, List.set_cons_succ]
  refine seqRead 4 (v := _) rfl (by kernel_rfl) (by kernel_rfl) (by kernel_rfl) (fun _ _ _ h => h) rfl (fun w hSw => by have c := hSw.cellsG.txn; go_simp <;> with_reducible rfl) hS ?_
  try simp only [Act.put, List.setIfInBounds_toArray, List.set_cons_zero, List.set_cons_succ]
  refine seqRead 5 (v := _) rfl (by kernel_rfl) (by kernel_rfl) (by kernel_rfl) (fun _ _ _ h => h) rfl (fun w hSw => by go_simp <;> with_reducible rfl) hS ?_
  try simp only [Act.put, List.setIfInBounds_toArray, List.set_cons_zero, List.set_cons_succ]
  refine seqRead 6 (v := _) rfl (by kernel_rfl) (by kernel_rfl) (by kernel_rfl) (fun _ _ _ h => h) rfl (fun w hSw => (show (execOp _ _).run _ w = .ok (.value (.agg (mca g.mod))) w from execRow rfl b0 3 rfl (mcl g.mod) _ hSw.cellsG.mod Tryz.underlying40 rfl infoMod)) hS ?_
  try simp only [Act.put, List.setIfInBounds_toArray, List.set_cons_zero, List.set_cons_succ]
  refine seqCall 7 rfl (by kernel_rfl) rfl (fun K hK => ?_)
  go_simp
  refine (un_change x B k g.txn HF.out HK.out g.mod HWM.out W HU.out HI.out HT.out.1 HZ.out).mono ?_
  rintro e w2 ⟨x2, rfl, hun2, hU2, hp2, hf2⟩
  obtain ⟨R2', hn2⟩ := (show Blk b0 (gca g) 42 W from hS).ufr hf2 HN.out
  have HUN := Lib.hid hun2
  have HU2 := Lib.hid hU2
  have HP2 := Lib.hid hp2
  have HF2 := Lib.hid hf2
  refine hK.out _ _ R2' (fun hS => ?_)
  clear hK K hun2 hU2 hp2 hf2 R2' hn2
  try simp only [Act.put, List.setIfInBounds_toArray, List.set_cons_zero, List.set_cons_succ]
  refine seqCall 8 rfl (by kernel_rfl) rfl (fun K hK => ?_)
  go_simp
  refine (un_refusal g.txn (chgE x.un g.txn g.mod.u) w2).mono ?_
  rintro e w3 ⟨va, gs, rfl, hgs, hav, hw3⟩
  have HGS := Lib.hid hgs
  have HAV := Lib.hid (hav.mono HF2.out.fr.size)
  have HU3 := Lib.hid (HU2.out.below hw3)
  have HF3 := Lib.hid (HF2.out.trans (UFr.of x2 hw3))
  refine hK.out _ _ ((show Blk b0 (gca g) 42 w2 from hS).below hw3) (fun hS => ?_)
  clear hK K hgs hav hw3
  try simp only [Act.put, List.setIfInBounds_toArray, List.set_cons_zero, List.set_cons_succ]
  refine seqRead 9 (v := _) rfl (by kernel_rfl) (by kernel_rfl) (by kernel_rfl) (fun _ _ _ h => h) rfl (fun w hSw => by go_simp <;> with_reducible rfl) hS ?_
  try simp only [Act.put, List.setIfInBounds_toArray, List.set_cons_zero, List.set_cons_succ]
  refine seqDone (by kernel_rfl) ?_
  clear hS
  go_wp2_with fail
  go_ret
  exact ⟨x2, _, gs, rfl, by rw [HGS.out, takeA_mod HSND.out HKD.out]; rfl, HAV.out.mono HBW.out.size, by rw [HUN.out, takeS_mod HSND.out HKD.out]; rfl, HU3.out, HP2.out, (UFr.of x HBW.out).trans HF3.out⟩
set_option maxHeartbeats 2000000 in
set_option maxRecDepth 100000 in
theorem un_take_bar (x : Um) (B k : Nat) (hF : FitM k x) (hk : k + 1 ≤ 9000) (g : Gm) (hw : WfMs g.u) (w : World) (h : UniA B x w) (hi : InG g w) (hs : StM B g.mod w) (ht : Tab w) (hz : 0 < B) (hsnd : sndMs g.u = true) (hkd : g.kind = 2) :
    Calls Tryz.prog 19 #[.pointer (some ⟨x.p, 0, none⟩), .agg (gca g)] w (TakeRet x B g w) := by
  have hk1 : (g.kind == 1) = false := by rw [hkd]; rfl
  have hk2 : (g.kind == 2) = true := by rw [hkd]; rfl
  have hk5 : (g.kind == 5) = false := by rw [hkd]; rfl
  have hk3 : (g.kind == 3) = false := by rw [hkd]; rfl
  have hk4 : (g.kind == 4) = false := by rw [hkd]; rfl
  have HKD := Lib.hid hkd
  clear hkd
  have R0 := Lib.hid (Blk.new w (gca g) 42)
  have HB0 := Lib.hid (below1 w (.cells (gca g) 42))
  have HU0 := Lib.hid (h.below HB0.out)
  have HI0 := Lib.hid (hs.below HB0.out)
  have HN0 := Lib.hid (show w.heap.size ∉ x.muts from fun hm => by have := h.muts.lt _ hm; omega)
  have HT0 := Lib.hid (Env.at_ ht hz (HB0.out.mono (by have := h.lt; have := h.ge; omega)) (by have := h.lt; have := h.ge; omega))
  have HSo := Lib.hid (msnd_any g hw _ (hi.below HB0.out) HT0.out.1 HT0.out.2)
  have HF := Lib.hid hF
  have HK := Lib.hid hk
  have HWM := Lib.hid hw.mod
  have HZ := Lib.hid hz
  have HSND := Lib.hid hsnd
  rw [hsnd] at HSo
  clear h hi hs ht hF hk hw hsnd
  go_enter Tryz.func19, Tryz.ntmps19
  obtain ⟨b0, hb0⟩ : ∃ b0, b0 = w.heap.size := ⟨_, rfl⟩
  rw [← hb0] at R0 HN0
  go_upto_region 1 with fail
  rw [← hb0]
  clear hb0
  generalize hW0 : w.alloc (.cells (gca g) 42) = w0 at *
  clear hW0
  go_upto_region 5 with (first
    | (refine wpList_load_row rfl 42 _ rfl b0 rfl 42 (gca g) (0, 0) _ R0.out Tryz.underlying42 rfl infoG ?_)
    | (go_at_call 39; refine HSo.out.mono ?_; rintro e w1 ⟨rfl, hw1⟩; refine Hid.out ?_))
  have R1 := Lib.hid (R0.out.below hw1)
  have HU1 := Lib.hid (HU0.out.below hw1)
  have HI1 := Lib.hid (HI0.out.below hw1)
  have HT1 := Lib.hid (show Tab w1 ∧ 0 < w1.heap.size from ⟨HT0.out.1.below HT0.out.2 hw1, by have := hw1.size; have := HT0.out.2; omega⟩)
  have HB1 := Lib.hid (HB0.out.trans (hw1.mono HB0.out.size))
  have k0 := R1.out.cellsG.kind
  have k1 := R1.out.cellsG.txn
  clear hw1 R0 HU0 HI0 HT0 HB0 HSo
  refine Lib.hid ?_
  have RG := Lib.hid (Blk.new w1 (gca (barG g.txn)) KG.T)
  have HBG := Lib.hid (below1 w1 (.cells (gca (barG g.txn)) KG.T))
  go_wp2_with (first
    | (refine buildBar rfl _ _ rfl g.txn rfl rfl ?_)
    | (refine kbuildOne KG okG #[Value.int IntKind.i64 0, Value.int IntKind.i64 0, Value.int IntKind.i64 0, Value.int IntKind.i64 0, Value.int IntKind.u64 0, Value.int IntKind.u64 0, Value.int IntKind.u64 0, Value.int IntKind.u64 0, Value.int IntKind.u64 0, Value.int IntKind.u64 0, Value.int IntKind.u64 0, Value.int IntKind.u64 0, Value.int IntKind.u64 0, Value.int IntKind.u64 0, Value.int IntKind.u64 0, Value.int IntKind.u64 0, Value.int IntKind.u64 0, Value.int IntKind.u64 0, Value.int IntKind.u64 0, Value.int IntKind.u64 0, Value.int IntKind.u64 0, Value.int IntKind.u64 0, Value.int IntKind.u64 0, Value.int IntKind.u64 0, Value.int IntKind.u64 0, Value.int IntKind.u64 0, Value.int IntKind.u64 0, Value.int IntKind.u64 0, Value.int IntKind.i64 0, Value.slice none 0 0, Value.int IntKind.i64 0, Value.int IntKind.i64 0, Value.int IntKind.i64 0, Value.bool false, Value.int IntKind.i64 0, Value.int IntKind.u64 0, Value.int IntKind.u64 0, Value.int IntKind.u64 0, Value.int IntKind.u64 0, Value.int IntKind.u64 0, Value.int IntKind.u64 0, Value.int IntKind.u64 0, Value.int IntKind.u64 0, Value.int IntKind.u64 0, Value.int IntKind.u64 0, Value.int IntKind.u64 0, Value.int IntKind.u64 0, Value.slice none 0 0] zeroG rfl _ rfl (gca (barG g.txn)) rfl (by decide) (fillG1 _) ?_))
  go_ret
  exact ⟨x, _, [barG g.txn], rfl, by rw [takeA_bar HSND.out HKD.out]; rfl, AnsL.one (oneG1 RG.out HB1.out.size) ⟨zM_own _ _, OL.nil _ _⟩, (takeS_oth (by rw [show g.u.kind = 2 from HKD.out]; decide) (by rw [show g.u.kind = 2 from HKD.out]; decide) (by rw [show g.u.kind = 2 from HKD.out]; decide)).symm, HU1.out.below HBG.out, rfl, UFr.of x (HB1.out.trans (HBG.out.mono HB1.out.size))⟩
set_option maxHeartbeats 2000000 in
set_option maxRecDepth 100000 in
theorem un_take_ask (x : Um) (B k : Nat) (hF : FitM k x) (hk : k + 1 ≤ 9000) (g : Gm) (hw : WfMs g.u) (w : World) (h : UniA B x w) (hi : InG g w) (hs : StM B g.mod w) (ht : Tab w) (hz : 0 < B) (hsnd : sndMs g.u = true) (hkd : g.kind = 5) :
    Calls Tryz.prog 19 #[.pointer (some ⟨x.p, 0, none⟩), .agg (gca g)] w (TakeRet x B g w) := by
  have hk1 : (g.kind == 1) = false := by rw [hkd]; rfl
  have hk2 : (g.kind == 2) = false := by rw [hkd]; rfl
  have hk5 : (g.kind == 5) = true := by rw [hkd]; rfl
  have hk3 : (g.kind == 3) = false := by rw [hkd]; rfl
  have hk4 : (g.kind == 4) = false := by rw [hkd]; rfl
  have HKD := Lib.hid hkd
  clear hkd
  have R0 := Lib.hid (Blk.new w (gca g) 42)
  have HB0 := Lib.hid (below1 w (.cells (gca g) 42))
  have HU0 := Lib.hid (h.below HB0.out)
  have HI0 := Lib.hid (hs.below HB0.out)
  have HN0 := Lib.hid (show w.heap.size ∉ x.muts from fun hm => by have := h.muts.lt _ hm; omega)
  have HT0 := Lib.hid (Env.at_ ht hz (HB0.out.mono (by have := h.lt; have := h.ge; omega)) (by have := h.lt; have := h.ge; omega))
  have HSo := Lib.hid (msnd_any g hw _ (hi.below HB0.out) HT0.out.1 HT0.out.2)
  have HF := Lib.hid hF
  have HK := Lib.hid hk
  have HWM := Lib.hid hw.mod
  have HZ := Lib.hid hz
  have HSND := Lib.hid hsnd
  rw [hsnd] at HSo
  clear h hi hs ht hF hk hw hsnd
  go_enter Tryz.func19, Tryz.ntmps19
  obtain ⟨b0, hb0⟩ : ∃ b0, b0 = w.heap.size := ⟨_, rfl⟩
  rw [← hb0] at R0 HN0
  go_upto_region 1 with fail
  rw [← hb0]
  clear hb0
  generalize hW0 : w.alloc (.cells (gca g) 42) = w0 at *
  clear hW0
  go_upto_region 5 with (first
    | (refine wpList_load_row rfl 42 _ rfl b0 rfl 42 (gca g) (0, 0) _ R0.out Tryz.underlying42 rfl infoG ?_)
    | (go_at_call 39; refine HSo.out.mono ?_; rintro e w1 ⟨rfl, hw1⟩; refine Hid.out ?_))
  have R1 := Lib.hid (R0.out.below hw1)
  have HU1 := Lib.hid (HU0.out.below hw1)
  have HI1 := Lib.hid (HI0.out.below hw1)
  have HT1 := Lib.hid (show Tab w1 ∧ 0 < w1.heap.size from ⟨HT0.out.1.below HT0.out.2 hw1, by have := hw1.size; have := HT0.out.2; omega⟩)
  have HB1 := Lib.hid (HB0.out.trans (hw1.mono HB0.out.size))
  have k0 := R1.out.cellsG.kind
  have k1 := R1.out.cellsG.txn
  clear hw1 R0 HU0 HI0 HT0 HB0 HSo
  refine Lib.hid ?_
  go_upto_region 11 with fail
  have HBW := Lib.hid (HB1.out.trans ((show Below w1.heap.size w1 w1.drew from (Below.refl _ _).drew).mono HB1.out.size))
  have HU := Lib.hid (HU1.out.below (show Below w1.heap.size w1 w1.drew from (Below.refl _ _).drew))
  have HI := Lib.hid (HI1.out.below (show Below w1.heap.size w1 w1.drew from (Below.refl _ _).drew))
  have HT := Lib.hid (show Tab w1.drew ∧ 0 < w1.drew.heap.size from ⟨HT1.out.1.below HT1.out.2 (Below.refl _ _).drew, HT1.out.2⟩)
  have HN := HN0
  refine wp_region_held_drew (S := fun W' => Blk b0 (gca g) 42 W') (by kernel_rfl) (show Blk b0 (gca g) 42 w1.drew from R1.out.drew) (fun hS => ?_)
  clear k0 k1 R1 HU1 HI1 HT1 HB1 HN0
  generalize w1.drew = W at *
  refine seqRead 0 (v := _) rfl (by kernel_rfl) (by kernel_rfl) (by kernel_rfl) (fun _ _ _ h => h) rfl (fun w hSw => by go_simp <;> with_reducible rfl) hS ?_
  try simp only [Act.put, List.setIfInBounds_toArray, List.set_cons_zero, List.set_cons_succ]
  refine seqRead 1 (v := _) rfl (by kernel_rfl) (by kernel_rfl) (by kernel_rfl) (fun _ _ _ h => h) rfl (fun w hSw => by have c := hSw.cellsG.txn; go_simp <;> with_reducible rfl) hS ?_
  try simp only [Act.put, List.setIfInBounds_toArray, List.set_cons_zero, List.set_cons_succ]
  refine seqRead 2 (v := _) rfl (by kernel_rfl) (by kernel_rfl) (by kernel_rfl) (fun _ _ _ h => h) rfl (fun w hSw => by go_simp <;> with_reducible rfl) hS ?_
  try simp only [Act.put, List.setIfInBounds_toArray, List.set_cons_zero, List.set_cons_succ]
  refine seqCall 3 rfl (by kernel_rfl) rfl (fun K hK => ?_)
  go_simp
  refine (un_base x B k HF.out W HU.out).mono ?_
  rintro e w2 ⟨vb, Lb, rfl, hub, hob, hw2⟩
  obtain ⟨qb, cb, eb⟩ := hob.1.form
  subst eb
  have HUB := Lib.hid hub
  have HOB := Lib.hid hob
  have HB2 := Lib.hid hw2
  refine hK.out _ _ ((show Blk b0 (gca g) 42 W from hS).below hw2) (fun hS => ?_)
  clear hK K hub hob hw2
  try simp only [Act.put, List.setIfInBounds_toArray, List.set_cons_zero, List.set_cons_succ]
  refine seqRead 4 (v := _) rfl (by kernel_rfl) (by kernel_rfl) (by kernel_rfl) (fun _ _ _ h => h) rfl (fun w hSw => (show (execOp _ _).run _ w = .ok (.value (.agg (gca (staG g.txn qb Lb cb)))) w from execSta rfl g.txn qb Lb cb rfl rfl rfl)) hS ?_
  try simp only [Act.put, List.setIfInBounds_toArray, List.set_cons_zero, List.set_cons_succ]
  refine seqCall 5 rfl (by kernel_rfl) rfl (fun K hK => ?_)
  refine kbuildOneWp KG okG #[Value.int IntKind.i64 0, Value.int IntKind.i64 0, Value.int IntKind.i64 0, Value.int IntKind.i64 0, Value.int IntKind.u64 0, Value.int IntKind.u64 0, Value.int IntKind.u64 0, Value.int IntKind.u64 0, Value.int IntKind.u64 0, Value.int IntKind.u64 0, Value.int IntKind.u64 0, Value.int IntKind.u64 0, Value.int IntKind.u64 0, Value.int IntKind.u64 0, Value.int IntKind.u64 0, Value.int IntKind.u64 0, Value.int IntKind.u64 0, Value.int IntKind.u64 0, Value.int IntKind.u64 0, Value.int IntKind.u64 0, Value.int IntKind.u64 0, Value.int IntKind.u64 0, Value.int IntKind.u64 0, Value.int IntKind.u64 0, Value.int IntKind.u64 0, Value.int IntKind.u64 0, Value.int IntKind.u64 0, Value.int IntKind.u64 0, Value.int IntKind.i64 0, Value.slice none 0 0, Value.int IntKind.i64 0, Value.int IntKind.i64 0, Value.int IntKind.i64 0, Value.bool false, Value.int IntKind.i64 0, Value.int IntKind.u64 0, Value.int IntKind.u64 0, Value.int IntKind.u64 0, Value.int IntKind.u64 0, Value.int IntKind.u64 0, Value.int IntKind.u64 0, Value.int IntKind.u64 0, Value.int IntKind.u64 0, Value.int IntKind.u64 0, Value.int IntKind.u64 0, Value.int IntKind.u64 0, Value.int IntKind.u64 0, Value.slice none 0 0] zeroG (.tmp 38) rfl (gca (staG g.txn qb Lb cb)) rfl (by decide) (fillG1 _) ?_
  have RG := Lib.hid (Blk.new w2 (gca (staG g.txn qb Lb cb)) KG.T)
  have HB3 := Lib.hid (below1 w2 (.cells (gca (staG g.txn qb Lb cb)) KG.T))
  refine hK.out _ _ ((show Blk b0 (gca g) 42 w2 from hS).below HB3.out) (fun hS => ?_)
  clear hK K
  generalize hW3 : w2.alloc (.cells (gca (staG g.txn qb Lb cb)) KG.T) = w3 at *
  clear hW3
  try simp only [Act.put, List.setIfInBounds_toArray, List.set_cons_zero, List.set_cons_succ]
  refine seqRead 6 (v := _) rfl (by kernel_rfl) (by kernel_rfl) (by kernel_rfl) (fun _ _ _ h => h) rfl (fun w hSw => by go_simp <;> with_reducible rfl) hS ?_
  try simp only [Act.put, List.setIfInBounds_toArray, List.set_cons_zero, List.set_cons_succ]
  refine seqDone (by kernel_rfl) ?_
  clear hS
  have HBZ := Lib.hid (HB2.out.trans (HB3.out.mono HB2.out.size))
  go_wp2_with fail
  go_ret
  exact ⟨x, _, [staG g.txn qb Lb cb], rfl, by rw [takeA_ask HSND.out HKD.out, ← HUB.out]; rfl, AnsL.one (oneG1 RG.out (Nat.le_trans HBW.out.size HB2.out.size)) ⟨zM_own _ _, (HOB.out.below HB3.out).mono HBW.out.size⟩, (takeS_oth (by rw [show g.u.kind = 5 from HKD.out]; decide) (by rw [show g.u.kind = 5 from HKD.out]; decide) (by rw [show g.u.kind = 5 from HKD.out]; decide)).symm, HU.out.below HBZ.out, rfl, UFr.of x (HBW.out.trans (HBZ.out.mono HBW.out.size))⟩
set_option maxHeartbeats 2000000 in
set_option maxRecDepth 100000 in
theorem un_take_com (x : Um) (B k : Nat) (hF : FitM k x) (hk : k + 1 ≤ 9000) (g : Gm) (hw : WfMs g.u) (w : World) (h : UniA B x w) (hi : InG g w) (hs : StM B g.mod w) (ht : Tab w) (hz : 0 < B) (hsnd : sndMs g.u = true) (hkd : g.kind = 3) :
    Calls Tryz.prog 19 #[.pointer (some ⟨x.p, 0, none⟩), .agg (gca g)] w (TakeRet x B g w) := by
  have hk1 : (g.kind == 1) = false := by rw [hkd]; rfl
  have hk2 : (g.kind == 2) = false := by rw [hkd]; rfl
  have hk5 : (g.kind == 5) = false := by rw [hkd]; rfl
  have hk3 : (g.kind == 3) = true := by rw [hkd]; rfl
  have hk4 : (g.kind == 4) = false := by rw [hkd]; rfl
  have HKD := Lib.hid hkd
  clear hkd
  obtain ⟨pb, cb, hvb⟩ := h.base.1.form
  have HVB := Lib.hid hvb
  have HLN := Lib.hid (show x.ts.length ≤ 100000 by have := hF.len; omega)
  have HLM := Lib.hid (show ∀ ms : List Mm, ms.map (·.u) = endB x.un g.txn → x.L.length + ms.length ≤ 40000 from fun ms hm => by
    have h1 := end_len x.un g.txn
    have h2 := congrArg List.length hm
    have h3 := hF.fit.size
    have h4 := hF.n
    have h5 : x.un.base.length = x.L.length := List.length_map ..
    rw [List.length_map] at h2
    omega)
  have HWB := Lib.hid hF.wfR
  have HWC := Lib.hid (show ∀ ms : List Mm, ms.map (·.u) = endB x.un g.txn → WfML ms from fun ms hm m hmm => hF.fit.chg m.u (endB_mem x.un g.txn m.u (by rw [← hm]; exact List.mem_map_of_mem hmm)))
  clear hvb
  have R0 := Lib.hid (Blk.new w (gca g) 42)
  have HB0 := Lib.hid (below1 w (.cells (gca g) 42))
  have HU0 := Lib.hid (h.below HB0.out)
  have HI0 := Lib.hid (hs.below HB0.out)
  have HN0 := Lib.hid (show w.heap.size ∉ x.muts from fun hm => by have := h.muts.lt _ hm; omega)
  have HT0 := Lib.hid (Env.at_ ht hz (HB0.out.mono (by have := h.lt; have := h.ge; omega)) (by have := h.lt; have := h.ge; omega))
  have HSo := Lib.hid (msnd_any g hw _ (hi.below HB0.out) HT0.out.1 HT0.out.2)
  have HF := Lib.hid hF
  have HK := Lib.hid hk
  have HWM := Lib.hid hw.mod
  have HZ := Lib.hid hz
  have HSND := Lib.hid hsnd
  rw [hsnd] at HSo
  clear h hi hs ht hF hk hw hsnd
  go_enter Tryz.func19, Tryz.ntmps19
  obtain ⟨b0, hb0⟩ : ∃ b0, b0 = w.heap.size := ⟨_, rfl⟩
  rw [← hb0] at R0 HN0
  go_upto_region 1 with fail
  rw [← hb0]
  clear hb0
  generalize hW0 : w.alloc (.cells (gca g) 42) = w0 at *
  clear hW0
  go_upto_region 5 with (first
    | (refine wpList_load_row rfl 42 _ rfl b0 rfl 42 (gca g) (0, 0) _ R0.out Tryz.underlying42 rfl infoG ?_)
    | (go_at_call 39; refine HSo.out.mono ?_; rintro e w1 ⟨rfl, hw1⟩; refine Hid.out ?_))
  have R1 := Lib.hid (R0.out.below hw1)
  have HU1 := Lib.hid (HU0.out.below hw1)
  have HI1 := Lib.hid (HI0.out.below hw1)
  have HT1 := Lib.hid (show Tab w1 ∧ 0 < w1.heap.size from ⟨HT0.out.1.below HT0.out.2 hw1, by have := hw1.size; have := HT0.out.2; omega⟩)
  have HB1 := Lib.hid (HB0.out.trans (hw1.mono HB0.out.size))
  have k0 := R1.out.cellsG.kind
  have k1 := R1.out.cellsG.txn
  clear hw1 R0 HU0 HI0 HT0 HB0 HSo
  refine Lib.hid ?_
  go_upto_region 13 with fail
  have HBW := Lib.hid (HB1.out.trans ((show Below w1.heap.size w1 w1.drew from (Below.refl _ _).drew).mono HB1.out.size))
  have HU := Lib.hid (HU1.out.below (show Below w1.heap.size w1 w1.drew from (Below.refl _ _).drew))
  have HI := Lib.hid (HI1.out.below (show Below w1.heap.size w1 w1.drew from (Below.refl _ _).drew))
  have HT := Lib.hid (show Tab w1.drew ∧ 0 < w1.drew.heap.size from ⟨HT1.out.1.below HT1.out.2 (Below.refl _ _).drew, HT1.out.2⟩)
  have HN := HN0
  refine wp_region_held_drew (S := fun W' => Blk b0 (gca g) 42 W') (by kernel_rfl) (show Blk b0 (gca g) 42 w1.drew from R1.out.drew) (fun hS => ?_)
  clear k0 k1 R1 HU1 HI1 HT1 HB1 HN0
  generalize w1.drew = W at *
  refine seqRead 0 (v := _) rfl (by kernel_rfl) (by kernel_rfl) (by kernel_rfl) (fun _ _ _ h => h) rfl (fun w hSw => by go_simp <;> with_reducible rfl) hS ?_
  try simp only [Act.put, List.setIfInBounds_toArray, List.set_cons_zero, List.set_cons_succ]
  refine seqRead 1 (v := _) rfl (by kernel_rfl) (by kernel_rfl) (by kernel_rfl) (fun _ _ _ h => h) rfl (fun w hSw => by go_simp <;> with_reducible rfl) hS ?_
  try simp only [Act.put, List.setIfInBounds_toArray, List.set_cons_zero, List.set_cons_succ]
  refine seqRead 2 (v := _) rfl (by kernel_rfl) (by kernel_rfl) (by kernel_rfl) (fun _ _ _ h => h) rfl (fun w hSw => by go_simp <;> with_reducible rfl) hS ?_
  try simp only [Act.put, List.setIfInBounds_toArray, List.set_cons_zero, List.set_cons_succ]
  refine seqRead 3 (v := _) rfl (by kernel_rfl) (by kernel_rfl) (by kernel_rfl) (fun _ _ _ h => h) rfl (fun w hSw => by go_simp <;> with_reducible rfl) hS ?_
  try simp only [Act.put, List.setIfInBounds_toArray, List.set_cons_zero, List.set_cons_succ]
  refine seqRead 5 (v := _) rfl (by kernel_rfl) (by kernel_rfl) (by kernel_rfl) (fun _ _ _ h => h) rfl (fun w hSw => by go_simp <;> with_reducible rfl) hS ?_
  try simp only [Act.put, List.setIfInBounds_toArray, List.set_cons_zero, List.set_cons_succ]
  refine seqRead 6 (v := _) rfl (by kernel_rfl) (by kernel_rfl) (by kernel_rfl) (fun _ _ _ h => h) rfl (fun w hSw => by go_simp <;> with_reducible rfl) hS ?_
  try simp only [Act.put, List.setIfInBounds_toArray, List.set_cons_zero, List.set_cons_succ]
  refine seqRead 7 (v := _) rfl (by kernel_rfl) (by kernel_rfl) (by kernel_rfl) (fun _ _ _ h => h) rfl (fun w hSw => by have c := hSw.cellsG.txn; go_simp <;> with_reducible rfl) hS ?_
  try simp only [Act.put, List.setIfInBounds_toArray, List.set_cons_zero, List.set_cons_succ]
  refine seqActs2 4 8 rfl rfl (by kernel_rfl) rfl (fun K hK => ?_) rfl (fun K hK => ?_)
  · have c1 : W.cell? ⟨x.p, 1, none⟩ = some (.slice pb x.L.length cb) := by rw [← HVB.out]; exact HU.out.vb_
    refine rdWp (.slice pb x.L.length cb) (by go_simp <;> with_reducible rfl) ?_
    refine hK.out _ _ hS (fun hS => ?_)
    clear hK K c1
    try simp only [Act.put, List.setIfInBounds_toArray, List.set_cons_zero, List.set_cons_succ]
    refine seqCall 8 rfl (by kernel_rfl) rfl (fun K hK => ?_)
    go_simp
    refine (un_end x B g.txn HLN.out W HU.out).mono ?_
    rintro e w2 ⟨vc, vo2, ms, ts2, rfl, hoc, hac, hmu, htx, hU2, hf2⟩
    have HOC := Lib.hid (And.intro hoc hac)
    have HMU := Lib.hid hmu
    have HTX := Lib.hid htx
    have HU2 := Lib.hid hU2
    have HF2 := Lib.hid hf2
    have HT2 := Lib.hid (hf2.env HU.out HT.out.1 HZ.out)
    refine hK.out _ _ ((show Blk b0 (gca g) 42 W from hS).ufr hf2 HN.out).1 (fun hS => ?_)
    clear hK K hoc hac hmu htx hU2 hf2
    try simp only [Act.put, List.setIfInBounds_toArray, List.set_cons_zero, List.set_cons_succ]
    refine seqCall 9 rfl (by kernel_rfl) rfl (fun K hK => ?_)
    go_simp
    refine (un_apply (.slice pb x.L.length cb) x.L vc ms B (HLM.out ms HMU.out) HWB.out (HWC.out ms HMU.out) w2 (by rw [← HVB.out]; exact HU2.out.base) (HOC.out.1.lies okM) (fun m hm => (HOC.out.2 m hm).inM) (by have := HU2.out.lt; have := HU2.out.ge; omega) HT2.out.1 HT2.out.2).mono ?_
    rintro e w3 ⟨v3, L3, rfl, hu3, ho3, hw3⟩
    have HL3 := Lib.hid hu3
    have HO3 := Lib.hid ho3
    have HU3 := Lib.hid (HU2.out.below hw3)
    have HF3 := Lib.hid (HF2.out.trans (UFr.of _ hw3))
    have HBX := Lib.hid (show Blk b0 (gca g) 42 w3 from (show Blk b0 (gca g) 42 w2 from hS).below hw3)
    refine hK.out _ _ HBX.out (fun hS => ?_)
    clear hK K hu3 ho3 hw3
    try simp only [Act.put, List.setIfInBounds_toArray, List.set_cons_zero, List.set_cons_succ]
    refine seqRead 10 (v := _) rfl (by kernel_rfl) (by kernel_rfl) (by kernel_rfl) (fun _ _ _ h => h) rfl (fun w hSw => by go_simp <;> with_reducible rfl) hS ?_
    try simp only [Act.put, List.setIfInBounds_toArray, List.set_cons_zero, List.set_cons_succ]
    refine seqRead 11 (v := _) rfl (by kernel_rfl) (by kernel_rfl) (by kernel_rfl) (fun _ _ _ h => h) rfl (fun w hSw => by go_simp <;> with_reducible rfl) hS ?_
    try simp only [Act.put, List.setIfInBounds_toArray, List.set_cons_zero, List.set_cons_succ]
    refine seqCall 12 rfl (by kernel_rfl) rfl (fun K hK => ?_)
    have HTH := Lib.hid (show w3.there x.p 1 1 from HU3.out.box.there (by show 2 ≤ 4; decide))
    have HONE := Lib.hid (show v3.oneCell' = true by obtain ⟨q, cc, e⟩ := HO3.out.1.form; rw [e]; rfl)
    refine stWp 27 _ _ rfl x.p 1 v3 rfl rfl HONE.out HTH.out infoSR ?_
    refine hK.out _ _ ((heap_setCell_other _ _ _ _ (show b0 ≠ x.p from fun e => HN.out (by rw [e]; simp [Um.muts]))).trans HBX.out) (fun hS => ?_)
    clear hK K
    have HFW := Lib.hid (Fr.cell w3 ⟨x.p, 1, none⟩ v3 (M := [x.p]) (by simp))
    have HX := Lib.hid (show UniA B ⟨x.p, x.room, v3, L3, vo2, ts2, x.fail⟩ (w3.setCell ⟨x.p, 1, none⟩ v3) from
      UniA.wrote (p := x.p) HU3.out.boxU rfl (HU3.out.box.one (k := 1) v3) HFW.out HO3.out HU3.out.opn HU3.out.txs HU3.out.nod)
    have HFX := Lib.hid (show UFr x ⟨x.p, x.room, v3, L3, vo2, ts2, x.fail⟩ W (w3.setCell ⟨x.p, 1, none⟩ v3) from ⟨HF3.out.fr.tr (HFW.out.mono fun g hg => .inl (by
      simp only [List.mem_cons, List.not_mem_nil, or_false] at hg
      subst hg
      simp [Um.muts])), HF3.out.new⟩)
    clear HTH HONE HFW HBX HU3 HF3 HO3
    generalize w3.setCell ⟨x.p, 1, none⟩ v3 = w4 at *
    try simp only [Act.put]
    refine seqDone (by kernel_rfl) ?_
    clear hS
    go_wp2_with fail
    go_ret
    exact ⟨_, _, [], rfl, (takeA_end HSND.out (.inl HKD.out)).symm, AnsL.nil _ _, (takeS_commit HSND.out HKD.out HL3.out HMU.out HTX.out).symm, HX.out, rfl, (UFr.of x HBW.out).trans HFX.out⟩
  · go_simp
    refine (un_end x B g.txn HLN.out W HU.out).mono ?_
    rintro e w2 ⟨vc, vo2, ms, ts2, rfl, hoc, hac, hmu, htx, hU2, hf2⟩
    have HOC := Lib.hid (And.intro hoc hac)
    have HMU := Lib.hid hmu
    have HTX := Lib.hid htx
    have HU2 := Lib.hid hU2
    have HF2 := Lib.hid hf2
    have HT2 := Lib.hid (hf2.env HU.out HT.out.1 HZ.out)
    refine hK.out _ _ ((show Blk b0 (gca g) 42 W from hS).ufr hf2 HN.out).1 (fun hS => ?_)
    clear hK K hoc hac hmu htx hU2 hf2
    try simp only [Act.put, List.setIfInBounds_toArray, List.set_cons_zero, List.set_cons_succ]
    refine seqCall 4 rfl (by kernel_rfl) rfl (fun K hK => ?_)
    have c1 : w2.cell? ⟨x.p, 1, none⟩ = some (.slice pb x.L.length cb) := by rw [← HVB.out]; exact HU2.out.vb_
    refine rdWp (.slice pb x.L.length cb) (by go_simp <;> with_reducible rfl) ?_
    refine hK.out _ _ hS (fun hS => ?_)
    clear hK K c1
    try simp only [Act.put, List.setIfInBounds_toArray, List.set_cons_zero, List.set_cons_succ]
    refine seqCall 9 rfl (by kernel_rfl) rfl (fun K hK => ?_)
    go_simp
    refine (un_apply (.slice pb x.L.length cb) x.L vc ms B (HLM.out ms HMU.out) HWB.out (HWC.out ms HMU.out) w2 (by rw [← HVB.out]; exact HU2.out.base) (HOC.out.1.lies okM) (fun m hm => (HOC.out.2 m hm).inM) (by have := HU2.out.lt; have := HU2.out.ge; omega) HT2.out.1 HT2.out.2).mono ?_
    rintro e w3 ⟨v3, L3, rfl, hu3, ho3, hw3⟩
    have HL3 := Lib.hid hu3
    have HO3 := Lib.hid ho3
    have HU3 := Lib.hid (HU2.out.below hw3)
    have HF3 := Lib.hid (HF2.out.trans (UFr.of _ hw3))
    have HBX := Lib.hid (show Blk b0 (gca g) 42 w3 from (show Blk b0 (gca g) 42 w2 from hS).below hw3)
    refine hK.out _ _ HBX.out (fun hS => ?_)
    clear hK K hu3 ho3 hw3
    try simp only [Act.put, List.setIfInBounds_toArray, List.set_cons_zero, List.set_cons_succ]
    refine seqRead 10 (v := _) rfl (by kernel_rfl) (by kernel_rfl) (by kernel_rfl) (fun _ _ _ h => h) rfl (fun w hSw => by go_simp <;> with_reducible rfl) hS ?_
    try simp only [Act.put, List.setIfInBounds_toArray, List.set_cons_zero, List.set_cons_succ]
    refine seqRead 11 (v := _) rfl (by kernel_rfl) (by kernel_rfl) (by kernel_rfl) (fun _ _ _ h => h) rfl (fun w hSw => by go_simp <;> with_reducible rfl) hS ?_
    try simp only [Act.put, List.setIfInBounds_toArray, List.set_cons_zero, List.set_cons_succ]
    refine seqCall 12 rfl (by kernel_rfl) rfl (fun K hK => ?_)
    have HTH := Lib.hid (show w3.there x.p 1 1 from HU3.out.box.there (by show 2 ≤ 4; decide))
    have HONE := Lib.hid (show v3.oneCell' = true by obtain ⟨q, cc, e⟩ := HO3.out.1.form; rw [e]; rfl)
    refine stWp 27 _ _ rfl x.p 1 v3 rfl rfl HONE.out HTH.out infoSR ?_
    refine hK.out _ _ ((heap_setCell_other _ _ _ _ (show b0 ≠ x.p from fun e => HN.out (by rw [e]; simp [Um.muts]))).trans HBX.out) (fun hS => ?_)
    clear hK K
    have HFW := Lib.hid (Fr.cell w3 ⟨x.p, 1, none⟩ v3 (M := [x.p]) (by simp))
    have HX := Lib.hid (show UniA B ⟨x.p, x.room, v3, L3, vo2, ts2, x.fail⟩ (w3.setCell ⟨x.p, 1, none⟩ v3) from
      UniA.wrote (p := x.p) HU3.out.boxU rfl (HU3.out.box.one (k := 1) v3) HFW.out HO3.out HU3.out.opn HU3.out.txs HU3.out.nod)
    have HFX := Lib.hid (show UFr x ⟨x.p, x.room, v3, L3, vo2, ts2, x.fail⟩ W (w3.setCell ⟨x.p, 1, none⟩ v3) from ⟨HF3.out.fr.tr (HFW.out.mono fun g hg => .inl (by
      simp only [List.mem_cons, List.not_mem_nil, or_false] at hg
      subst hg
      simp [Um.muts])), HF3.out.new⟩)
    clear HTH HONE HFW HBX HU3 HF3 HO3
    generalize w3.setCell ⟨x.p, 1, none⟩ v3 = w4 at *
    try simp only [Act.put]
    refine seqDone (by kernel_rfl) ?_
    clear hS
    go_wp2_with fail
    go_ret
    exact ⟨_, _, [], rfl, (takeA_end HSND.out (.inl HKD.out)).symm, AnsL.nil _ _, (takeS_commit HSND.out HKD.out HL3.out HMU.out HTX.out).symm, HX.out, rfl, (UFr.of x HBW.out).trans HFX.out⟩
set_option maxHeartbeats 2000000 in
set_option maxRecDepth 100000 in
theorem un_take_und (x : Um) (B k : Nat) (hF : FitM k x) (hk : k + 1 ≤ 9000) (g : Gm) (hw : WfMs g.u) (w : World) (h : UniA B x w) (hi : InG g w) (hs : StM B g.mod w) (ht : Tab w) (hz : 0 < B) (hsnd : sndMs g.u = true) (hkd : g.kind = 4) :
    Calls Tryz.prog 19 #[.pointer (some ⟨x.p, 0, none⟩), .agg (gca g)] w (TakeRet x B g w) := by
  have hk1 : (g.kind == 1) = false := by rw [hkd]; rfl
  have hk2 : (g.kind == 2) = false := by rw [hkd]; rfl
  have hk5 : (g.kind == 5) = false := by rw [hkd]; rfl
  have hk3 : (g.kind == 3) = false := by rw [hkd]; rfl
  have hk4 : (g.kind == 4) = true := by rw [hkd]; rfl
  have HKD := Lib.hid hkd
  clear hkd
  have HLN := Lib.hid (show x.ts.length ≤ 100000 by have := hF.len; omega)
  have R0 := Lib.hid (Blk.new w (gca g) 42)
  have HB0 := Lib.hid (below1 w (.cells (gca g) 42))
  have HU0 := Lib.hid (h.below HB0.out)
  have HI0 := Lib.hid (hs.below HB0.out)
  have HN0 := Lib.hid (show w.heap.size ∉ x.muts from fun hm => by have := h.muts.lt _ hm; omega)
  have HT0 := Lib.hid (Env.at_ ht hz (HB0.out.mono (by have := h.lt; have := h.ge; omega)) (by have := h.lt; have := h.ge; omega))
  have HSo := Lib.hid (msnd_any g hw _ (hi.below HB0.out) HT0.out.1 HT0.out.2)
  have HF := Lib.hid hF
  have HK := Lib.hid hk
  have HWM := Lib.hid hw.mod
  have HZ := Lib.hid hz
  have HSND := Lib.hid hsnd
  rw [hsnd] at HSo
  clear h hi hs ht hF hk hw hsnd
  go_enter Tryz.func19, Tryz.ntmps19
  obtain ⟨b0, hb0⟩ : ∃ b0, b0 = w.heap.size := ⟨_, rfl⟩
  rw [← hb0] at R0 HN0
  go_upto_region 1 with fail
  rw [← hb0]
  clear hb0
  generalize hW0 : w.alloc (.cells (gca g) 42) = w0 at *
  clear hW0
  go_upto_region 5 with (first
    | (refine wpList_load_row rfl 42 _ rfl b0 rfl 42 (gca g) (0, 0) _ R0.out Tryz.underlying42 rfl infoG ?_)
    | (go_at_call 39; refine HSo.out.mono ?_; rintro e w1 ⟨rfl, hw1⟩; refine Hid.out ?_))
  have R1 := Lib.hid (R0.out.below hw1)
  have HU1 := Lib.hid (HU0.out.below hw1)
  have HI1 := Lib.hid (HI0.out.below hw1)
  have HT1 := Lib.hid (show Tab w1 ∧ 0 < w1.heap.size from ⟨HT0.out.1.below HT0.out.2 hw1, by have := hw1.size; have := HT0.out.2; omega⟩)
  have HB1 := Lib.hid (HB0.out.trans (hw1.mono HB0.out.size))
  have k0 := R1.out.cellsG.kind
  have k1 := R1.out.cellsG.txn
  clear hw1 R0 HU0 HI0 HT0 HB0 HSo
  refine Lib.hid ?_
  have HE := Lib.hid (un_end x B g.txn HLN.out w1 HU1.out)
  go_wp2_with (go_at_call 43; refine HE.out.mono ?_; rintro e w2 ⟨vc, vo2, ms, ts2, rfl, hoc, hac, hmu, htx, hU2, hf2⟩)
  go_ret
  exact ⟨_, _, [], rfl, (takeA_end HSND.out (.inr HKD.out)).symm, AnsL.nil _ _, (takeS_undo HSND.out HKD.out htx).symm, hU2, rfl, (UFr.of x HB1.out).trans hf2⟩
set_option maxHeartbeats 2000000 in
set_option maxRecDepth 100000 in
theorem un_take_oth (x : Um) (B k : Nat) (hF : FitM k x) (hk : k + 1 ≤ 9000) (g : Gm) (hw : WfMs g.u) (w : World) (h : UniA B x w) (hi : InG g w) (hs : StM B g.mod w) (ht : Tab w) (hz : 0 < B) (hsnd : sndMs g.u = true) (hkd : 5 < g.kind) :
    Calls Tryz.prog 19 #[.pointer (some ⟨x.p, 0, none⟩), .agg (gca g)] w (TakeRet x B g w) := by
  have hk1 : (g.kind == 1) = false := by simp; omega
  have hk2 : (g.kind == 2) = false := by simp; omega
  have hk5 : (g.kind == 5) = false := by simp; omega
  have hk3 : (g.kind == 3) = false := by simp; omega
  have hk4 : (g.kind == 4) = false := by simp; omega
  have HKD := Lib.hid hkd
  clear hkd
  have R0 := Lib.hid (Blk.new w (gca g) 42)
  have HB0 := Lib.hid (below1 w (.cells (gca g) 42))
  have HU0 := Lib.hid (h.below HB0.out)
  have HI0 := Lib.hid (hs.below HB0.out)
  have HN0 := Lib.hid (show w.heap.size ∉ x.muts from fun hm => by have := h.muts.lt _ hm; omega)
  have HT0 := Lib.hid (Env.at_ ht hz (HB0.out.mono (by have := h.lt; have := h.ge; omega)) (by have := h.lt; have := h.ge; omega))
  have HSo := Lib.hid (msnd_any g hw _ (hi.below HB0.out) HT0.out.1 HT0.out.2)
  have HF := Lib.hid hF
  have HK := Lib.hid hk
  have HWM := Lib.hid hw.mod
  have HZ := Lib.hid hz
  have HSND := Lib.hid hsnd
  rw [hsnd] at HSo
  clear h hi hs ht hF hk hw hsnd
  go_enter Tryz.func19, Tryz.ntmps19
  obtain ⟨b0, hb0⟩ : ∃ b0, b0 = w.heap.size := ⟨_, rfl⟩
  rw [← hb0] at R0 HN0
  go_upto_region 1 with fail
  rw [← hb0]
  clear hb0
  generalize hW0 : w.alloc (.cells (gca g) 42) = w0 at *
  clear hW0
  go_upto_region 5 with (first
    | (refine wpList_load_row rfl 42 _ rfl b0 rfl 42 (gca g) (0, 0) _ R0.out Tryz.underlying42 rfl infoG ?_)
    | (go_at_call 39; refine HSo.out.mono ?_; rintro e w1 ⟨rfl, hw1⟩; refine Hid.out ?_))
  have R1 := Lib.hid (R0.out.below hw1)
  have HU1 := Lib.hid (HU0.out.below hw1)
  have HI1 := Lib.hid (HI0.out.below hw1)
  have HT1 := Lib.hid (show Tab w1 ∧ 0 < w1.heap.size from ⟨HT0.out.1.below HT0.out.2 hw1, by have := hw1.size; have := HT0.out.2; omega⟩)
  have HB1 := Lib.hid (HB0.out.trans (hw1.mono HB0.out.size))
  have k0 := R1.out.cellsG.kind
  have k1 := R1.out.cellsG.txn
  clear hw1 R0 HU0 HI0 HT0 HB0 HSo
  refine Lib.hid ?_
  have HR := Lib.hid (un_refusal g.txn 2 w1)
  go_wp2_with (go_at_call 40; refine HR.out.mono ?_; rintro e w2 ⟨va, gs, rfl, hgs, hav, hw2⟩)
  go_ret
  have hk : 5 < g.u.kind := HKD.out
  exact ⟨x, _, gs, rfl, by rw [hgs, takeA_oth HSND.out hk]; rfl, hav.mono HB1.out.size, (takeS_oth (by omega) (by omega) (by omega)).symm, HU1.out.below hw2, rfl, UFr.of x (HB1.out.trans (hw2.mono HB1.out.size))⟩
/-- Take -/
theorem un_take (x : Um) (B k : Nat) (hF : FitM k x) (hk : k + 1 ≤ 9000) (g : Gm) (hw : WfMs g.u) (w : World) (h : UniA B x w) (hi : InG g w) (hs : StM B g.mod w) (ht : Tab w) (hz : 0 < B) :
    Calls Tryz.prog 19 #[.pointer (some ⟨x.p, 0, none⟩), .agg (gca g)] w (TakeRet x B g w) := by
  cases hsnd : sndMs g.u
  · exact un_take_no x B k hF hk g hw w h hi hs ht hz hsnd
  · rcases snd_kinds hsnd with q | q | q | q | q | q
    · exact un_take_mod x B k hF hk g hw w h hi hs ht hz hsnd q
    · exact un_take_bar x B k hF hk g hw w h hi hs ht hz hsnd q
    · exact un_take_com x B k hF hk g hw w h hi hs ht hz hsnd q
    · exact un_take_und x B k hF hk g hw w h hi hs ht hz hsnd q
    · exact un_take_ask x B k hF hk g hw w h hi hs ht hz hsnd q
    · exact un_take_oth x B k hF hk g hw w h hi hs ht hz hsnd q
end Go.Proofs.YtomnpfbebimpkaaGreatDoor
