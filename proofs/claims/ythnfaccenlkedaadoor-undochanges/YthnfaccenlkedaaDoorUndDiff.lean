/-
  The walks of Forth, Back, Diff and Inverse of package undo.
-/
import Derived.Test.YthnfaccenlkedaaDoorUndSwap
namespace Go.Proofs.YthnfaccenlkedaaDoor
set_option maxRecDepth 20000
open Go.RowKit

theorem infoP : (Tryd.prog.info? 25).map (·.size) = some 2 := by kernel_rfl
/-- the cells of an empty patch -/
def nilP : Array Value := #[.slice none 0 0, .slice none 0 0]
theorem builtP (p1 p2 : Option Addr) (n1 n2 c1 c2 : Nat) : Tryd.prog.built 25 [(0, .slice p1 n1 c1), (1, .slice p2 n2 c2)] = some #[.slice p1 n1 c1, .slice p2 n2 c2] := by kernel_rfl
theorem builtP0 : Tryd.prog.built 25 [] = some nilP := by kernel_rfl
theorem buildP {ops : Array Oper} {rest : List Oper} {o : Oper} {a : Act} {w : World} {Q : Exit → Act → World → Prop} (hg : o.guard = none) (x y : Operand) (ho : o.op = .build 25 #[(0, x), (1, y)])
    (p1 p2 : Option Addr) (n1 n2 c1 c2 : Nat) (hx : a.eval x = .slice p1 n1 c1) (hy : a.eval y = .slice p2 n2 c2)
    (k : wpList Tryd.prog ops Q rest (a.put o.dst (.agg #[.slice p1 n1 c1, .slice p2 n2 c2])) w) : wpList Tryd.prog ops Q (o :: rest) a w := by
  have e : ((#[(0, x), (1, y)] : Array (Nat × Operand)).map fun (p : Nat × Operand) => (p.1, a.eval p.2)).toList = [(0, .slice p1 n1 c1), (1, .slice p2 n2 c2)] := by simp [hx, hy]
  have e' := congrArg (Tryd.prog.built 25) e
  rw [builtP] at e'
  refine wpList_build hg 25 _ ho (by rw [e']; rfl) ?_
  rw [e']
  exact k
theorem buildP0 {ops : Array Oper} {rest : List Oper} {o : Oper} {a : Act} {w : World} {Q : Exit → Act → World → Prop} (hg : o.guard = none) (ho : o.op = .build 25 #[])
    (k : wpList Tryd.prog ops Q rest (a.put o.dst (.agg nilP)) w) : wpList Tryd.prog ops Q (o :: rest) a w := by
  have e : ((#[] : Array (Nat × Operand)).map fun (p : Nat × Operand) => (p.1, a.eval p.2)).toList = [] := by simp
  have e' := congrArg (Tryd.prog.built 25) e
  rw [builtP0] at e'
  refine wpList_build hg 25 _ ho (by rw [e']; rfl) ?_
  rw [e']
  exact k
set_option maxHeartbeats 1000000 in
theorem forth_any (v vg vc : Value) (l g c : List Rm) (hl1 : l.length ≤ 10000) (hg1 : g.length ≤ 10000) (hc1 : c.length ≤ 10000) (hwl : WfRL l) (hwg : WfRL g) (hwc : WfRL c) (w : World) (hl : RLies v l w) (hg : RLies vg g w) (hc : RLies vc c w) (ht : Tab w) (hz : 0 < w.heap.size) :
    Calls Tryd.prog 11 #[v, .agg #[vg, vc]] w (SwpRet w (l.map (·.u)) (g.map (·.u)) (c.map (·.u))) := by
  have hE := (Env.start ht hz).alloc (.cells #[vg, vc] 25)
  have HB := Lib.hid (below1 w (.cells #[vg, vc] 25))
  have HS := Lib.hid (swap_any v vg vc l g c hl1 hg1 hc1 hwl hwg hwc _ (hl.below HB.out) (hg.below HB.out) (hc.below HB.out) hE.tab hE.lt)
  have hB := Blk.new w #[vg, vc] 25
  have k0 : (w.alloc (.cells #[vg, vc] 25)).cell? ⟨w.heap.size, 0, none⟩ = some vg := (cell_of_row _ w.heap.size 0 _ _ _ hB).trans rfl
  have k1 : (w.alloc (.cells #[vg, vc] 25)).cell? ⟨w.heap.size, 1, none⟩ = some vc := (cell_of_row _ w.heap.size 1 _ _ _ hB).trans rfl
  obtain ⟨p, cap, rfl⟩ := hl.1.form
  obtain ⟨pg, capg, rfl⟩ := hg.1.form
  obtain ⟨pc, capc, rfl⟩ := hc.1.form
  clear hl hg hc hwl hwg hwc ht hE hB
  go_enter Tryd.func11, Tryd.ntmps11
  go_wp2_with (go_at_call 24; refine HS.out.mono ?_; rintro e w1 ⟨rv, L, rfl, hL, hI⟩)
  go_ret2
  exact ⟨rv, L, rfl, hL, hI.up HB.out⟩
set_option maxHeartbeats 1000000 in
theorem back_any (v vg vc : Value) (l g c : List Rm) (hl1 : l.length ≤ 10000) (hg1 : g.length ≤ 10000) (hc1 : c.length ≤ 10000) (hwl : WfRL l) (hwg : WfRL g) (hwc : WfRL c) (w : World) (hl : RLies v l w) (hg : RLies vg g w) (hc : RLies vc c w) (ht : Tab w) (hz : 0 < w.heap.size) :
    Calls Tryd.prog 12 #[v, .agg #[vg, vc]] w (SwpRet w (l.map (·.u)) (c.map (·.u)) (g.map (·.u))) := by
  have hE := (Env.start ht hz).alloc (.cells #[vg, vc] 25)
  have HB := Lib.hid (below1 w (.cells #[vg, vc] 25))
  have HS := Lib.hid (swap_any v vc vg l c g hl1 hc1 hg1 hwl hwc hwg _ (hl.below HB.out) (hc.below HB.out) (hg.below HB.out) hE.tab hE.lt)
  have hB := Blk.new w #[vg, vc] 25
  have k0 : (w.alloc (.cells #[vg, vc] 25)).cell? ⟨w.heap.size, 0, none⟩ = some vg := (cell_of_row _ w.heap.size 0 _ _ _ hB).trans rfl
  have k1 : (w.alloc (.cells #[vg, vc] 25)).cell? ⟨w.heap.size, 1, none⟩ = some vc := (cell_of_row _ w.heap.size 1 _ _ _ hB).trans rfl
  obtain ⟨p, cap, rfl⟩ := hl.1.form
  obtain ⟨pg, capg, rfl⟩ := hg.1.form
  obtain ⟨pc, capc, rfl⟩ := hc.1.form
  clear hl hg hc hwl hwg hwc ht hE hB
  go_enter Tryd.func12, Tryd.ntmps12
  go_wp2_with (go_at_call 24; refine HS.out.mono ?_; rintro e w1 ⟨rv, L, rfl, hL, hI⟩)
  go_ret2
  exact ⟨rv, L, rfl, hL, hI.up HB.out⟩
/-- what Diff gives: two lists of one's own -/
def DifRet (w : World) (us ks : List Ru) (e : Ending) (w' : World) : Prop := ∃ x1 L1 x2 L2, e = .returned (.agg #[x1, x2]) ∧ L1.map (·.u) = difG us ks ∧ L2.map (·.u) = difG ks us ∧ InS w x1 L1 w' ∧ InS w x2 L2 w'
/-- the two tables, the patch's box -/
def DfS (w0 : World) (v1 : Value) (a : List Rm) (v2 : Value) (b : List Rm) (Bp : Nat) (W : World) : Prop := RLies v1 a W ∧ RLies v2 b W ∧ Env w0 W ∧ Blk Bp nilP 25 W
theorem DfS.below {w0 : World} {v1 v2 : Value} {a b : List Rm} {Bp : Nat} {W W' : World} (hb : Below W.heap.size W W') (h : DfS w0 v1 a v2 b Bp W) : DfS w0 v1 a v2 b Bp W' := ⟨h.1.below hb, h.2.1.below hb, h.2.2.1.below hb, h.2.2.2.below hb⟩
/-- what DeleteFunc keeps over a copy: a table in a box, the copy's actions -/
def DdS (w0 : World) (Bx : Nat) (v : Value) (g : Nat) (L : List Rm) (W : World) : Prop := SdS w0 Bx v W ∧ ∀ r ∈ L, OwnA (g + 1) r W
section
variable {w0 w1 W W' : World} {Bx g : Nat} {v x x1 x2 : Value} {L L1 L2 l : List Rm} {us ks : List Ru}
theorem DdS.below (h : DdS w0 Bx v g L W) (hb : Below W.heap.size W W') : DdS w0 Bx v g L W' := ⟨SdS.below hb h.1, fun r hr => (h.2 r hr).below hb⟩
theorem DdS.stay (h1 : w0.heap.size ≤ g) (h2 : Bx ≠ g) : StayS (DdS w0 Bx v g L) g where
  below := fun h hb => h.below hb
  put := fun o vs h => ⟨(SdS.stay h1 h2).put o vs h.1, fun r hr => KOwns.other (h.2 r hr) fun k hk _ => heap_stM_other (by omega) _ _ _⟩
/-- a list of one's own, with one cell row ahead of it written -/
theorem InS.row (h : InS w1 x L W) (he : w1.heap.size = w0.heap.size + 1) (hb : Below w0.heap.size w0 w1) (vs : Array Value) : InS w0 x L (W.setRow w0.heap.size vs) :=
  ⟨(KOwns.other h.1 fun k hk _ => setRow_other _ _ _ _ (by omega)).mono (by omega), fun y hy => KOwns.mono (KOwns.other (h.2.1 y hy) fun k hk _ => setRow_other _ _ _ _ (by omega)) (by omega),
    below_setRow (hb.trans (h.2.2.mono (by omega))) (Nat.le_refl _) vs⟩
theorem InS.none (hb : Below w0.heap.size w0 W) : InS w0 (.slice none 0 0) [] W := ⟨KOwns.nil _ _, fun y hy => (by cases hy), hb⟩
theorem DifRet.no (h : (tabU us && tabU ks) = false) (hb : Below w0.heap.size w0 W) : DifRet w0 us ks (.returned (.agg nilP)) W :=
  ⟨_, [], _, [], rfl, by unfold difG; rw [h]; rfl, by unfold difG; rw [Bool.and_comm, h]; rfl, InS.none hb, InS.none hb⟩
end
set_option maxHeartbeats 4000000 in
theorem diff_any (v1 v2 : Value) (a b : List Rm) (ha1 : a.length ≤ 10000) (hb1 : b.length ≤ 10000) (hwa : WfRL a) (hwb : WfRL b) (w : World) (ha : RLies v1 a w) (hb : RLies v2 b w) (ht : Tab w) (hz : 0 < w.heap.size) :
    Calls Tryd.prog 9 #[v1, v2] w (DifRet w (a.map (·.u)) (b.map (·.u))) := by
  obtain ⟨p, cap, rfl⟩ := ha.1.form
  obtain ⟨pb, capb, rfl⟩ := hb.1.form
  have HS := Lib.hid (show DfS w (.slice p a.length cap) a (.slice pb b.length capb) b w.heap.size (w.alloc (.cells nilP 25)) from ⟨ha.below (below1 _ _), hb.below (below1 _ _), (Env.start ht hz).alloc _, Blk.new _ _ _⟩)
  have HB0 := Lib.hid (below1 w (.cells nilP 25))
  have HSz := Lib.hid (show (w.alloc (.cells nilP 25)).heap.size = w.heap.size + 1 from by first | rfl | simp)
  have HWA := Lib.hid hwa
  have HWB := Lib.hid hwb
  obtain ⟨us, hus⟩ : ∃ us, us = a.map (·.u) := ⟨_, rfl⟩
  obtain ⟨ks, hks⟩ : ∃ ks, ks = b.map (·.u) := ⟨_, rfl⟩
  rw [← hus, ← hks]
  have HUS := Lib.hid hus
  have HKS := Lib.hid hks
  clear ha hb hwa hwb ht hus hks
  go_enter Tryd.func9, Tryd.ntmps9
  go_upto_region 1 with fail
  change Hid (DfS w (.slice p a.length cap) a (.slice pb b.length capb) b w.heap.size (w.alloc (.cells #[.slice none 0 0, .slice none 0 0] 25))) at HS
  change Hid (Below w.heap.size w (w.alloc (.cells #[.slice none 0 0, .slice none 0 0] 25))) at HB0
  change Hid ((w.alloc (.cells #[.slice none 0 0, .slice none 0 0] 25)).heap.size = w.heap.size + 1) at HSz
  generalize w.alloc (.cells #[.slice none 0 0, .slice none 0 0] 25) = W1 at *
  have HT1 := Lib.hid (table_any _ a (by omega) HWA.out W1 HS.out.1 HS.out.2.2.1.tab HS.out.2.2.1.lt)
  rw [tabB_tabU, ← HUS.out] at HT1
  cases h1 : tabU us
  · rw [h1] at HT1
    have HR := Lib.hid (show (tabU us && tabU ks) = false by rw [h1]; rfl)
    clear h1
    go_wp2_with (go_at_call 18; refine HT1.out.mono ?_; rintro e w2 ⟨rfl, hw2⟩; refine Hid.out ?_)
    have HS2 := Lib.hid (DfS.below hw2 HS.out)
    have RP := Lib.hid HS2.out.2.2.2
    clear hw2 HT1 HS
    refine Lib.hid ?_
    go_wp2_with (first
      | (refine buildP0 rfl rfl ?_)
      | (refine wpList_store_row rfl 25 _ _ rfl w.heap.size nilP rfl rfl 25 _ RP.out (by kernel_rfl) rfl (by kernel_rfl) ?_))
    refine bodyPost_ret (v := .agg nilP) ?_ rfl (DifRet.no HR.out (below_setRow HS2.out.2.2.1.kept (Nat.le_refl _) _))
    exact res_one Tryd.results9 (cs := nilP) rfl (RP.out.rset _) Tryd.underlying25 rfl (by kernel_rfl)
  rw [h1] at HT1
  go_wp2_with (go_at_call 18; refine HT1.out.mono ?_; rintro e w2 ⟨rfl, hw2⟩; refine Hid.out ?_)
  have HS2 := Lib.hid (DfS.below hw2 HS.out)
  have HB2 := Lib.hid hw2
  have H1 := Lib.hid h1
  have HT2 := Lib.hid (table_any _ b (by omega) HWB.out w2 HS2.out.2.1 HS2.out.2.2.1.tab HS2.out.2.2.1.lt)
  rw [tabB_tabU, ← HKS.out] at HT2
  clear hw2 HT1 HS h1
  cases h2 : tabU ks
  · rw [h2] at HT2
    have HR := Lib.hid (show (tabU us && tabU ks) = false by rw [h2, Bool.and_false])
    clear h2
    refine Lib.hid ?_
    go_wp2_with (go_at_call 18; refine HT2.out.mono ?_; rintro e w3 ⟨rfl, hw3⟩; refine Hid.out ?_)
    have HS3 := Lib.hid (DfS.below hw3 HS2.out)
    have RP := Lib.hid HS3.out.2.2.2
    clear hw3 HT2 HS2
    refine Lib.hid ?_
    go_wp2_with (first
      | (refine buildP0 rfl rfl ?_)
      | (refine wpList_store_row rfl 25 _ _ rfl w.heap.size nilP rfl rfl 25 _ RP.out (by kernel_rfl) rfl (by kernel_rfl) ?_))
    refine bodyPost_ret (v := .agg nilP) ?_ rfl (DifRet.no HR.out (below_setRow HS3.out.2.2.1.kept (Nat.le_refl _) _))
    exact res_one Tryd.results9 (cs := nilP) rfl (RP.out.rset _) Tryd.underlying25 rfl (by kernel_rfl)
  rw [h2] at HT2
  have HR := Lib.hid (show (tabU us && tabU ks) = true by rw [H1.out, h2]; rfl)
  have H2 := Lib.hid h2
  clear h2
  refine Lib.hid ?_
  go_wp2_with (go_at_call 18; refine HT2.out.mono ?_; rintro e w3 ⟨rfl, hw3⟩; refine Hid.out ?_)
  have HS3 := Lib.hid (DfS.below hw3 HS2.out)
  have HB3 := Lib.hid (HB2.out.trans (hw3.mono HB2.out.size))
  have HC3 := Lib.hid (copy_any _ a (by omega) HWA.out w3 HS3.out.1)
  clear hw3 HT2 HS2 HB2
  refine Lib.hid ?_
  go_wp2_with (go_at_call 20; refine HC3.out.mono ?_; rintro e w4 ⟨g, L0, rfl, hu4, hc4⟩; refine Hid.out ?_)
  have HU4 := Lib.hid (hu4.trans HUS.out.symm)
  have HC4 := Lib.hid hc4
  have HL4 := Lib.hid (show L0.length ≤ 10000 by have := congrArg List.length hu4; simp only [List.length_map] at this; omega)
  have HE4 := Lib.hid (eqIn_any pb b.length capb w4)
  clear hu4 hc4 HC3
  refine Lib.hid ?_
  go_wp2_with (go_at_call 21; refine HE4.out.mono ?_; rintro e w5 ⟨rfl, hx5, hw5⟩; refine Hid.out ?_)
  have HC5 := Lib.hid (HC4.out.below hw5)
  have HD5 := Lib.hid (show DdS w3 w4.heap.size (.slice pb b.length capb) g L0 w5 from ⟨⟨HC5.out.2.2.1, hx5⟩, HC5.out.2.1⟩)
  have HQ5 := Lib.hid (rdl_any 36 #[.pointer (some ⟨w4.heap.size, 0, none⟩)] (eqB b) enEq1 (DdS w3 w4.heap.size (.slice pb b.length capb) g L0) (.slice (some ⟨g, 0, none⟩) L0.length L0.length) w3.heap.size L0 (by have := HL4.out; omega) w5 (KAt.owns okR HC5.out.1 HC5.out.2.2.2)
    (fun B hB => by
      have e : g = B := by injection hB
      subst e
      exact DdS.stay HC5.out.2.2.2 (fun e => by have := HC4.out.lt; omega)) (fun h hb => h.below hb)
    (fun W hW r hr => eq1_any w4.heap.size _ b (by omega) (by rw [← HKS.out]; exact srt_tab H2.out) r ((WfUL.rl (WfUL.of HWA.out) (HU4.out.trans HUS.out)) r hr) W hW.1.2 (HS3.out.2.1.below hW.1.1) (hW.2 r hr).inA) HD5.out)
  clear hw5 hx5 HE4 HC4
  refine Lib.hid ?_
  go_wp2_with (go_at_call 19; refine HQ5.out.mono ?_; rintro e w6 ⟨x1, rfl, ho6, hd6⟩; refine Hid.out ?_)
  obtain ⟨L1, hL1⟩ : ∃ L1, L1 = L0.filter fun r => !eqB b r := ⟨_, rfl⟩
  rw [← hL1] at ho6
  have HI6 := Lib.hid (show InS w3 x1 L1 w6 from ⟨ho6, fun y hy => (hd6.2 y (by rw [hL1] at hy; exact (List.mem_filter.1 hy).1)).mono (by have := HC5.out.2.2.2; omega), hd6.1.1⟩)
  have HU6 := Lib.hid (show L1.map (·.u) = difG us ks by unfold difG; rw [if_pos HR.out, hL1, filt_alone, HU4.out, ← HKS.out])
  obtain ⟨p1, c1, rfl⟩ := ho6.form
  have HS6 := Lib.hid (DfS.below hd6.1.1 HS3.out)
  have HC6 := Lib.hid (copy_any _ b (by omega) HWB.out w6 HS6.out.2.1)
  clear ho6 hd6 hL1 HQ5 HD5 HC5 HS3 HU4 HL4
  refine Lib.hid ?_
  go_wp2_with (go_at_call 20; refine HC6.out.mono ?_; rintro e w7 ⟨g7, L7, rfl, hu7, hc7⟩; refine Hid.out ?_)
  have HU7 := Lib.hid (hu7.trans HKS.out.symm)
  have HC7 := Lib.hid hc7
  have HL7 := Lib.hid (show L7.length ≤ 10000 by have := congrArg List.length hu7; simp only [List.length_map] at this; omega)
  have HE7 := Lib.hid (eqIn_any p a.length cap w7)
  clear hu7 hc7 HC6
  refine Lib.hid ?_
  go_wp2_with (go_at_call 21; refine HE7.out.mono ?_; rintro e w8 ⟨rfl, hx8, hw8⟩; refine Hid.out ?_)
  have HC8 := Lib.hid (HC7.out.below hw8)
  have HD8 := Lib.hid (show DdS w6 w7.heap.size (.slice p a.length cap) g7 L7 w8 from ⟨⟨HC8.out.2.2.1, hx8⟩, HC8.out.2.1⟩)
  have HQ8 := Lib.hid (rdl_any 36 #[.pointer (some ⟨w7.heap.size, 0, none⟩)] (eqB a) enEq1 (DdS w6 w7.heap.size (.slice p a.length cap) g7 L7) (.slice (some ⟨g7, 0, none⟩) L7.length L7.length) w6.heap.size L7 (by have := HL7.out; omega) w8 (KAt.owns okR HC8.out.1 HC8.out.2.2.2)
    (fun B hB => by
      have e : g7 = B := by injection hB
      subst e
      exact DdS.stay HC8.out.2.2.2 (fun e => by have := HC7.out.lt; omega)) (fun h hb => h.below hb)
    (fun W hW r hr => eq1_any w7.heap.size _ a (by omega) (by rw [← HUS.out]; exact srt_tab H1.out) r ((WfUL.rl (WfUL.of HWB.out) (HU7.out.trans HKS.out)) r hr) W hW.1.2 (HS6.out.1.below hW.1.1) (hW.2 r hr).inA) HD8.out)
  clear hw8 hx8 HE7 HC7
  refine Lib.hid ?_
  go_wp2_with (go_at_call 19; refine HQ8.out.mono ?_; rintro e w9 ⟨x2, rfl, ho9, hd9⟩; refine Hid.out ?_)
  obtain ⟨L2, hL2⟩ : ∃ L2, L2 = L7.filter fun r => !eqB a r := ⟨_, rfl⟩
  rw [← hL2] at ho9
  have HI9 := Lib.hid (show InS w6 x2 L2 w9 from ⟨ho9, fun y hy => (hd9.2 y (by rw [hL2] at hy; exact (List.mem_filter.1 hy).1)).mono (by have := HC8.out.2.2.2; omega), hd9.1.1⟩)
  have HU9 := Lib.hid (show L2.map (·.u) = difG ks us by unfold difG; rw [Bool.and_comm, if_pos HR.out, hL2, filt_alone, HU7.out, ← HUS.out])
  obtain ⟨p2, c2, rfl⟩ := ho9.form
  have HI1 := Lib.hid ((HI6.out.below hd9.1.1).up HB3.out)
  have HI2 := Lib.hid (HI9.out.up (HB3.out.trans (HI6.out.2.2.mono HB3.out.size)))
  have RP := Lib.hid (HS6.out.2.2.2.below hd9.1.1)
  clear ho9 hd9 hL2 HQ8 HD8 HC8 HS6 HU7 HL7 HI6 HI9
  refine Lib.hid ?_
  go_wp2_with (first
    | (refine buildP rfl _ _ rfl p1 p2 L1.length L2.length c1 c2 rfl rfl ?_)
    | (refine wpList_store_row rfl 25 _ _ rfl w.heap.size #[.slice p1 L1.length c1, .slice p2 L2.length c2] rfl rfl 25 _ RP.out (by kernel_rfl) rfl (by simp [Value.oneCell']) ?_))
  refine bodyPost_ret (v := .agg #[.slice p1 L1.length c1, .slice p2 L2.length c2]) ?_ rfl ⟨_, L1, _, L2, rfl, HU6.out, HU9.out, HI1.out.row HSz.out HB0.out _, HI2.out.row HSz.out HB0.out _⟩
  exact res_one Tryd.results9 (cs := #[.slice p1 L1.length c1, .slice p2 L2.length c2]) rfl (RP.out.rset _) Tryd.underlying25 rfl (by kernel_rfl)
end Go.Proofs.YthnfaccenlkedaaDoor
