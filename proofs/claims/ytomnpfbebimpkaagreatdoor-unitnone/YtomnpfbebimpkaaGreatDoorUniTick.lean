/-
  Tick, Fail and View of a unit; what a nil unit answers.
-/
import Derived.Test.YtomnpfbebimpkaaGreatDoorUniPkt
import Derived.Test.YtomnpfbebimpkaaGreatDoorLapTk
namespace Go.Proofs.YtomnpfbebimpkaaGreatDoor
set_option maxRecDepth 20000
open Go.RowKit

/-- a rule that is gone, told -/
def gonG (q : Option Addr) (c : Nat) (r : Rm) : Gm := ⟨9, 0, 0, zMm, 0, zHd, q, 1, c, [r]⟩
theorem builtGon (q : Option Addr) (c : Nat) (r : Rm) : Tryz.prog.built 42 [(0, .int .i64 9), (6, .slice q 1 c)] = some (gca (gonG q c r)) := by kernel_rfl
theorem buildGon {ops : Array Oper} {rest : List Oper} {o : Oper} {a : Act} {w : World} {Q : Exit → Act → World → Prop} (hg : o.guard = none) (x y : Operand) (ho : o.op = .build 42 #[(0, x), (6, y)]) (q : Option Addr) (c : Nat) (r : Rm)
    (hx : a.eval x = .int .i64 9) (hy : a.eval y = .slice q 1 c) (k : wpList Tryz.prog ops Q rest (a.put o.dst (.agg (gca (gonG q c r)))) w) : wpList Tryz.prog ops Q (o :: rest) a w := by
  have e : ((#[(0, x), (6, y)] : Array (Nat × Operand)).map fun (p : Nat × Operand) => (p.1, a.eval p.2)).toList = [(0, .int .i64 9), (6, .slice q 1 c)] := by simp [hx, hy]
  have e' := congrArg (Tryz.prog.built 42) e
  rw [builtGon q c r] at e'
  refine wpList_build hg 42 _ ho (by rw [e']; rfl) ?_
  rw [e']
  exact k
theorem oneR1 {b base : Nat} {r : Rm} {W : World} (h : Blk b (rca r) KR.T W) (hb : base ≤ b) : KOwns KR base (.slice (some ⟨b, 0, none⟩) 1 1) [r] W := Blk.own (l := [r]) okR h (by simp [Kd.flat, rca]) (by show 1 ≤ maxLen; unfold maxLen; decide) hb
theorem ne_AG : KA.T ≠ KG.T := by decide
theorem ne_RG : KR.T ≠ KG.T := by decide
theorem OwnGm.grown {B b : Nat} {a : Gm} {v : Value} {l : List Gm} {W W' : World} (h : OwnGm B a W) (ho : KOwns KG b v l W) (hg : W.grownBy W' v.ownBlock) : OwnGm B a W' :=
  ⟨KOwns.apartT ne_AG h.1 ho hg, KOwns.apartT ne_RG h.2.1 ho hg, fun y hy => KOwns.apartT ne_AG (h.2.2 y hy) ho hg⟩
def tkMs (us : List Ru) : List Ms := us.map fun u => ⟨9, 0, 0, zMu, 0, zHd, [u]⟩
theorem gonG_u (q : Option Addr) (c : Nat) (r : Rm) : (gonG q c r).u = ⟨9, 0, 0, zMu, 0, zHd, [r.u]⟩ := rfl
/-- what Tick gives -/
def TckRet (x : Um) (B : Nat) (n : Int) (w : World) (e : Ending) (w' : World) : Prop :=
  ∃ (x' : Um) (v : Value) (gs : List Gm), e = .returned v ∧ gs.map (·.u) = tickA x.un n ∧ AnsL w.heap.size v gs w' ∧ x'.un = tickS x.un n ∧ UniA B x' w' ∧ x'.p = x.p ∧ UFr x x' w w'
set_option maxHeartbeats 2000000 in
set_option maxRecDepth 100000 in
theorem un_tick (x : Um) (B k : Nat) (hF : FitM k x) (n : Int) (w : World) (hU : UniA B x w) :
    Calls Tryz.prog 21 #[.pointer (some ⟨x.p, 0, none⟩), .int .i64 n] w (TckRet x B n w) := by
  obtain ⟨pb, cb, hvb⟩ := hU.base.1.form
  have HVB := Lib.hid hvb
  have HU := Lib.hid hU
  have HBW := Lib.hid (show B ≤ w.heap.size by have := hU.lt; have := hU.ge; omega)
  have HLB := Lib.hid (show x.L.length ≤ 9000 by have := hF.len; omega)
  have c1 : w.cell? ⟨x.p, 1, none⟩ = some (.slice pb x.L.length cb) := by rw [← HVB.out]; exact hU.vb_
  have HTK := Lib.hid (tick_any (.slice pb x.L.length cb) x.L (by have := HLB.out; omega) hF.wfR n w (by rw [← HVB.out]; exact hU.base.lies))
  clear hU hvb hF
  go_enter Tryz.func21, Tryz.ntmps21
  go_upto_region 4 with (go_at_call 47; refine HTK.out.mono ?_; rintro e w1 ⟨va, vb, LA, LB, rfl, hua, hub, htk⟩; refine Hid.out ?_)
  have HUA := Lib.hid hua
  have HUB := Lib.hid hub
  have HOA := Lib.hid (show OL B va LA w1 from ⟨htk.a.mono HBW.out, fun y hy => (htk.pa y hy).mono HBW.out⟩)
  have HOB := Lib.hid (show OL w.heap.size vb LB w1 from ⟨htk.b, htk.pb⟩)
  have HU1 := Lib.hid (HU.out.below htk.kept)
  have HB1 := Lib.hid htk.kept
  have HONE := Lib.hid (show va.oneCell' = true by obtain ⟨q, cc, e⟩ := htk.a.form; rw [e]; rfl)
  have HTH := Lib.hid (show w1.there x.p 1 1 from HU1.out.box.there (by show 2 ≤ 4; decide))
  have HLN := Lib.hid (show LB.length ≤ 9000 by
    have h1 := congrArg List.length hua
    have h2 := congrArg List.length hub
    have h3 := left_gone_len (clampN n) (x.L.map (·.u))
    rw [List.length_map] at h1 h2 h3
    have := HLB.out
    omega)
  clear hua hub htk HTK HU c1 HLB
  refine Lib.hid ?_
  go_upto_region 5 with (first
    | (refine storeCell rfl 27 _ _ rfl x.p 1 va rfl rfl HONE.out HTH.out infoSR ?_; refine Hid.out ?_))
  have HFW := Lib.hid (Fr.cell w1 ⟨x.p, 1, none⟩ va (M := [x.p]) (by simp))
  have HMW := Lib.hid (show Muts [x.p] w1 from fun g hg => by
    simp only [List.mem_cons, List.not_mem_nil, or_false] at hg
    subst hg
    exact ⟨_, by decide, HU1.out.box.typ⟩)
  have HX := Lib.hid (show UniA B ⟨x.p, x.room, va, LA, x.vo, x.ts, x.fail⟩ (w1.setCell ⟨x.p, 1, none⟩ va) from
    UniA.wrote (p := x.p) HU1.out.boxU rfl (HU1.out.box.one (k := 1) va) HFW.out HOA.out HU1.out.opn HU1.out.txs HU1.out.nod)
  have HUF := Lib.hid (show UFr x ⟨x.p, x.room, va, LA, x.vo, x.ts, x.fail⟩ w (w1.setCell ⟨x.p, 1, none⟩ va) from
    ⟨(Fr.of HB1.out).tr (HFW.out.mono fun g hg => .inl (by
      simp only [List.mem_cons, List.not_mem_nil, or_false] at hg
      subst hg
      simp [Um.muts])), fun g hg => .inl hg⟩)
  have HGO := Lib.hid (HOB.out.fr HFW.out HMW.out)
  have HWS := Lib.hid (show w.heap.size ≤ (w1.setCell ⟨x.p, 1, none⟩ va).heap.size from Nat.le_trans HB1.out.size HFW.out.size)
  clear HTH HFW HMW HU1 HOA HOB HB1 HONE
  generalize w1.setCell ⟨x.p, 1, none⟩ va = w2 at *
  obtain ⟨pg, cg, eg⟩ := HGO.out.1.form
  subst eg
  obtain ⟨m, hm⟩ : ∃ m, m = LB.length := ⟨_, rfl⟩
  have HM := Lib.hid hm
  rw [← hm] at HGO HLN ⊢
  have hmB : m ≤ 9000 := HLN.out
  clear hm HLN
  refine Lib.hid ?_
  go_wp2_with fail
  go_loopg [7, 27] m (fun q s7 s27 wr => ∃ (r : Nat) (gs : List Gm), r + q = m ∧ s27 = .int .i64 r ∧ gs.map (·.u) = tkMs ((LB.take r).map (·.u)) ∧ KOwns KG w2.heap.size s7 gs wr ∧ (∀ a ∈ gs, OwnGm w.heap.size a wr) ∧ Below w2.heap.size w2 wr)
  case atStart => exact ⟨0, [], by omega, rfl, rfl, KOwns.nil _ _, fun a ha => (by cases ha), Below.refl _ _⟩
  case round =>
    obtain ⟨r, gs, hr, rfl, hgs, hko, hog, hb⟩ := hrel
    have HGS := Lib.hid hgs
    have HKO := Lib.hid hko
    have HOG := Lib.hid hog
    have HB := Lib.hid hb
    have hgl : gs.length ≤ 9000 := by
      have h1 := congrArg List.length hgs
      unfold tkMs at h1
      rw [List.length_map, List.length_map, List.length_map, List.length_take] at h1
      omega
    obtain ⟨p7, c7, e7⟩ := hko.form
    subst e7
    clear hgs hko hog hb
    by_cases hlt : r < m
    · have hltI : (r : Int) < (m : Int) := by omega
      obtain ⟨y, hy⟩ := lt_some (l := LB) (i := r) (by have := HM.out; omega)
      obtain ⟨bb, o, rfl, hrg⟩ := ((HGO.out.below HB.out).1.lies okR).at hy
      have HR := Lib.hid hrg
      have HY := Lib.hid ((HGO.out.2 y (List.mem_of_getElem? hy)).below HB.out)
      have HTKE := Lib.hid (show tkMs ((LB.take (r + 1)).map (·.u)) = tkMs ((LB.take r).map (·.u)) ++ [⟨9, 0, 0, zMu, 0, zHd, [y.u]⟩] by
        rw [List.take_add_one, hy, List.map_append]
        unfold tkMs
        rw [List.map_append]
        rfl)
      clear hrg hy
      go_upto_region 9 with (first
        | (refine wpList_load_mid rfl 88 _ rfl bb (o + r * 32) rfl (rcl y) _ HR.out Tryz.underlying88 rfl infoR ?_)
        | (refine wpList_store_row rfl 88 _ _ rfl wr.heap.size (rca y) rfl rfl 88 _ (heap_alloc_new _ _) (by kernel_rfl) rfl (rca_one _) ?_; rw [World.setRow_alloc_new]))
      have RX := Lib.hid (Blk.new wr (rca y) 88)
      have HB1 := Lib.hid (below1 wr (.cells (rca y) 88))
      have HB2 := Lib.hid (HB.out.trans (HB1.out.mono HB.out.size))
      have HY1 := Lib.hid (HY.out.below HB1.out)
      have HK1 := Lib.hid (HKO.out.below HB1.out)
      have HG1 := Lib.hid (show ∀ a ∈ gs, OwnGm w.heap.size a (wr.alloc (.cells (rca y) 88)) from fun a ha => (HOG.out a ha).below HB1.out)
      clear HR HB HY HKO HOG HB1
      generalize hW1 : wr.alloc (.cells (rca y) 88) = W1 at *
      clear hW1
      have R1 := Lib.hid (Blk.new W1 (rca y) KR.T)
      have HB3 := Lib.hid (below1 W1 (.cells (rca y) KR.T))
      have R2 := Lib.hid (Blk.new (W1.alloc (.cells (rca y) KR.T)) (gca (gonG (some ⟨W1.heap.size, 0, none⟩) 1 y)) KG.T)
      have HB4 := Lib.hid (below1 (W1.alloc (.cells (rca y) KR.T)) (.cells (gca (gonG (some ⟨W1.heap.size, 0, none⟩) 1 y)) KG.T))
      have HK2 := Lib.hid ((HK1.out.below HB3.out).below HB4.out)
      have HLE := Lib.hid (show w2.heap.size ≤ ((W1.alloc (.cells (rca y) KR.T)).alloc (.cells (gca (gonG (some ⟨W1.heap.size, 0, none⟩) 1 y)) KG.T)).heap.size from Nat.le_trans HB2.out.size (Nat.le_trans HB3.out.size HB4.out.size))
      have HLG := Lib.hid (show gs.length + [gonG (some ⟨W1.heap.size, 0, none⟩) 1 y].length ≤ 1000000 by rw [List.length_singleton]; omega)
      go_wp2_with (first
        | (refine wpList_load_row rfl 88 _ rfl wr.heap.size rfl 88 (rca y) (0, 0) _ RX.out Tryz.underlying88 rfl infoR ?_)
        | (refine kbuildOne KR okR #[Value.int IntKind.u64 0, Value.int IntKind.u64 0, Value.int IntKind.u64 0, Value.int IntKind.u64 0, Value.int IntKind.u64 0, Value.int IntKind.u64 0, Value.int IntKind.u64 0, Value.int IntKind.u64 0, Value.int IntKind.u64 0, Value.int IntKind.u64 0, Value.int IntKind.u64 0, Value.int IntKind.u64 0, Value.int IntKind.u64 0, Value.int IntKind.u64 0, Value.int IntKind.u64 0, Value.int IntKind.u64 0, Value.int IntKind.u64 0, Value.int IntKind.u64 0, Value.int IntKind.u64 0, Value.int IntKind.u64 0, Value.int IntKind.u64 0, Value.int IntKind.u64 0, Value.int IntKind.u64 0, Value.int IntKind.u64 0, Value.int IntKind.i64 0, Value.slice none 0 0, Value.int IntKind.i64 0, Value.int IntKind.i64 0, Value.int IntKind.i64 0, Value.int IntKind.i64 0, Value.int IntKind.i64 0, Value.int IntKind.i64 0] zeroR rfl _ rfl (rca y) rfl (by decide) (fillOne y) ?_)
        | (refine buildGon rfl _ _ rfl (some ⟨W1.heap.size, 0, none⟩) 1 y rfl rfl ?_)
        | (refine kbuildOne KG okG #[Value.int IntKind.i64 0, Value.int IntKind.i64 0, Value.int IntKind.i64 0, Value.int IntKind.i64 0, Value.int IntKind.u64 0, Value.int IntKind.u64 0, Value.int IntKind.u64 0, Value.int IntKind.u64 0, Value.int IntKind.u64 0, Value.int IntKind.u64 0, Value.int IntKind.u64 0, Value.int IntKind.u64 0, Value.int IntKind.u64 0, Value.int IntKind.u64 0, Value.int IntKind.u64 0, Value.int IntKind.u64 0, Value.int IntKind.u64 0, Value.int IntKind.u64 0, Value.int IntKind.u64 0, Value.int IntKind.u64 0, Value.int IntKind.u64 0, Value.int IntKind.u64 0, Value.int IntKind.u64 0, Value.int IntKind.u64 0, Value.int IntKind.u64 0, Value.int IntKind.u64 0, Value.int IntKind.u64 0, Value.int IntKind.u64 0, Value.int IntKind.i64 0, Value.slice none 0 0, Value.int IntKind.i64 0, Value.int IntKind.i64 0, Value.int IntKind.i64 0, Value.bool false, Value.int IntKind.i64 0, Value.int IntKind.u64 0, Value.int IntKind.u64 0, Value.int IntKind.u64 0, Value.int IntKind.u64 0, Value.int IntKind.u64 0, Value.int IntKind.u64 0, Value.int IntKind.u64 0, Value.int IntKind.u64 0, Value.int IntKind.u64 0, Value.int IntKind.u64 0, Value.int IntKind.u64 0, Value.int IntKind.u64 0, Value.slice none 0 0] zeroG rfl _ rfl (gca (gonG (some ⟨W1.heap.size, 0, none⟩) 1 y)) rfl (by decide) (fillG1 _) ?_)
        | (refine kappend KG okG rfl _ _ rfl w2.heap.size _ gs [gonG (some ⟨W1.heap.size, 0, none⟩) 1 y] rfl HK2.out _ rfl ((oneG1 R2.out (Nat.le_refl _)).lies okG) HLE.out HLG.out (fun v5 w5 ho5 hg5 => ?_); refine Hid.out ?_))
      have HB34 := Lib.hid (HB3.out.trans (HB4.out.mono HB3.out.size))
      have HO5 := Lib.hid ho5
      have HB5 := Lib.hid (kbelowOwn (HB2.out.trans (HB34.out.mono HB2.out.size)) HK2.out (Nat.le_refl _) hg5)
      have HG5 := Lib.hid (show ∀ a ∈ gs ++ [gonG (some ⟨W1.heap.size, 0, none⟩) 1 y], OwnGm w.heap.size a w5 from fun a ha => by
        rcases List.mem_append.1 ha with q | q
        · exact ((HG1.out a q).below HB34.out).grown HK2.out hg5
        · simp only [List.mem_cons, List.not_mem_nil, or_false] at q
          subst q
          refine OwnGm.grown ⟨zM_own _ _, oneR1 (R1.out.below HB4.out) (by have := HB2.out.size; have := HWS.out; omega), fun z hz => ?_⟩ HK2.out hg5
          have hz' : z = y := by simpa [gonG] using hz
          subst hz'
          exact HY1.out.below HB34.out)
      clear ho5 hg5 HB34 R1 R2 HB3 HB4 HK1 HK2 HG1 HLE HLG HB2 HY1 RX
      refine Lib.hid ?_
      go_wp2_with fail
      go_roundg (m - (r + 1))
      case measure => omega
      case rel => exact ⟨r + 1, _, by omega, by go_num, by rw [List.map_append, HGS.out, HTKE.out]; rfl, HO5.out, HG5.out, HB5.out⟩
    · have hltI : ¬ (r : Int) < (m : Int) := by omega
      have HFN := Lib.hid (show gs.map (·.u) = tkMs (LB.map (·.u)) by rw [HGS.out, List.take_of_length_le (by have := HM.out; omega)])
      go_wp2_with fail
      go_ret
      refine ⟨_, _, gs, rfl, ?_, ⟨HKO.out.mono HWS.out, HOG.out⟩, ?_, HX.out.below HB.out, rfl, HUF.out.trans (UFr.of _ HB.out)⟩
      · rw [HFN.out, HUB.out]
        rfl
      · show (⟨x.room, LA.map (·.u), x.ts.map (·.tx), x.fail⟩ : Un) = tickS x.un n
        rw [HUA.out]
        rfl
theorem un_fail (x : Um) (B : Nat) (w : World) (hU : UniA B x w) :
    Calls Tryz.prog 23 #[.pointer (some ⟨x.p, 0, none⟩)] w fun e w' => e = .returned (.tuple #[]) ∧ UniA B ⟨x.p, x.room, x.vb, x.L, x.vo, x.ts, true⟩ w' ∧ UFr x ⟨x.p, x.room, x.vb, x.L, x.vo, x.ts, true⟩ w w' := by
  have HU := Lib.hid hU
  have HTH := Lib.hid (show w.there x.p 3 1 from hU.box.there (by show 4 ≤ 4; decide))
  clear hU
  go_enter Tryz.func23, Tryz.ntmps23
  go_wp2_with (refine storeCell rfl 4 _ _ rfl x.p 3 (.bool true) rfl rfl rfl HTH.out infoBool ?_; refine Hid.out ?_)
  have HFW := Lib.hid (Fr.cell w ⟨x.p, 3, none⟩ (.bool true) (M := [x.p]) (by simp))
  have HX := Lib.hid (show UniA B ⟨x.p, x.room, x.vb, x.L, x.vo, x.ts, true⟩ (w.setCell ⟨x.p, 3, none⟩ (.bool true)) from
    UniA.wrote (p := x.p) HU.out.boxU rfl (HU.out.box.one (k := 3) (.bool true)) HFW.out HU.out.base HU.out.opn HU.out.txs HU.out.nod)
  have HUF := Lib.hid (show UFr x ⟨x.p, x.room, x.vb, x.L, x.vo, x.ts, true⟩ w (w.setCell ⟨x.p, 3, none⟩ (.bool true)) from
    ⟨HFW.out.mono fun g hg => .inl (by
      simp only [List.mem_cons, List.not_mem_nil, or_false] at hg
      subst hg
      simp [Um.muts]), fun g hg => .inl hg⟩)
  clear HTH HFW HU
  generalize w.setCell ⟨x.p, 3, none⟩ (.bool true) = w1 at *
  refine Lib.hid ?_
  go_wp2_with fail
  refine bodyPost_end (results_none rfl _ _ _) rfl ?_
  exact ⟨rfl, HX.out, HUF.out⟩
theorem un_View (x : Um) (B k : Nat) (hF : FitM k x) (w : World) (h : UniA B x w) (ht : Tab w) (hz : 0 < w.heap.size) : Calls Tryz.prog 16 #[.pointer (some ⟨x.p, 0, none⟩)] w (LayRet w.heap.size w x.un.view) := by
  have HV := Lib.hid (un_view x B k hF w h ht hz)
  have HL := Lib.hid (show x.un.view.length ≤ 9000 by have := hF.fit.view_len; have := hF.n; omega)
  have HWV := Lib.hid hF.fit.view
  clear h ht hz hF
  go_enter Tryz.func16, Tryz.ntmps16
  go_wp2_with (go_at_call 36; refine HV.out.mono ?_; rintro e w1 ⟨v, L, rfl, hu, ho, hw1⟩; refine Hid.out ?_)
  have HC := Lib.hid (copy_any v L (by have h1 := congrArg List.length hu; rw [List.length_map] at h1; have := HL.out; omega) (HWV.out.rl hu) w1 ho.lies)
  have HUU := Lib.hid hu
  have HB1 := Lib.hid hw1
  clear hu ho hw1 HV
  refine Lib.hid ?_
  go_wp2_with (go_at_call 35; refine HC.out.mono ?_; rintro e w2 ⟨g, L2, rfl, hu2, hc⟩)
  go_ret
  have hge := HB1.out.size
  exact ⟨_, L2, rfl, by rw [hu2, HUU.out], ⟨KAt.owns okR hc.1 (by have := hc.2.2.2; omega), fun y hy => (hc.2.1 y hy).mono (by have := hc.2.2.2; omega)⟩, HB1.out.trans (hc.2.2.1.mono hge)⟩
/-! ### a nil unit -/
theorem nil_take (g : Gm) (w : World) : Calls Tryz.prog 19 #[.pointer none, .agg (gca g)] w fun e w' => e = .returned (.slice none 0 0) ∧ Below w.heap.size w w' := by
  have HB := Lib.hid (below1 w (.cells (gca g) 42))
  go_enter Tryz.func19, Tryz.ntmps19
  go_wp2_with fail
  go_ret
  exact ⟨rfl, HB.out⟩
theorem nil_tick (n : Int) (w : World) : Calls Tryz.prog 21 #[.pointer none, .int .i64 n] w fun e w' => e = .returned (.slice none 0 0) ∧ Below w.heap.size w w' := by
  go_enter Tryz.func21, Tryz.ntmps21
  go_wp2_with fail
  go_ret
  exact ⟨rfl, Below.refl _ _⟩
theorem nil_fail (w : World) : Calls Tryz.prog 23 #[.pointer none] w fun e w' => e = .returned (.tuple #[]) ∧ Below w.heap.size w w' := by
  go_enter Tryz.func23, Tryz.ntmps23
  go_wp2_with fail
  refine bodyPost_end (results_none rfl _ _ _) rfl ?_
  exact ⟨rfl, Below.refl _ _⟩
theorem nil_base (w : World) : Calls Tryz.prog 15 #[.pointer none] w fun e w' => e = .returned (.slice none 0 0) ∧ Below w.heap.size w w' := by
  go_enter Tryz.func15, Tryz.ntmps15
  go_wp2_with fail
  go_ret
  exact ⟨rfl, Below.refl _ _⟩
theorem nil_View (w : World) : Calls Tryz.prog 16 #[.pointer none] w fun e w' => e = .returned (.slice none 0 0) ∧ Below w.heap.size w w' := by
  go_enter Tryz.func16, Tryz.ntmps16
  go_wp2_with fail
  go_ret
  exact ⟨rfl, Below.refl _ _⟩
theorem nil_open (w : World) : Calls Tryz.prog 18 #[.pointer none] w fun e w' => e = .returned (.slice none 0 0) ∧ Below w.heap.size w w' := by
  go_enter Tryz.func18, Tryz.ntmps18
  go_wp2_with fail
  go_ret
  exact ⟨rfl, Below.refl _ _⟩
theorem nil_packet (port : Int) (h : Nat → Int) (w : World) : Calls Tryz.prog 20 #[.pointer none, .int .i64 port, .agg (hc h)] w fun e w' => e = .returned (.tuple #[.slice none 0 0, .slice none 0 0, .agg (hpa zHp)]) ∧ Below w.heap.size w w' := by
  have HB := Lib.hid (show Below w.heap.size w ((w.alloc (.cells (hc h) 35)).alloc (.cells (hpa zHp) 60)) from (below1 w _).trans ((below1 _ _).mono (below1 w _).size))
  have R8 := Lib.hid (Blk.new2 w (.cells (hc h) 35) (hpa zHp) 60)
  have hz := hpa_zero
  go_enter Tryz.func20, Tryz.ntmps20
  go_upto_region 2 with fail
  generalize hW : (w.alloc (.cells (hc h) 35)).alloc (.cells (hpa zHp) 60) = W at *
  clear hW hz
  go_wp2_with (first
    | (refine buildHp0 rfl rfl ?_)
    | (refine wpList_store_row rfl 60 _ _ rfl (w.heap.size + 1) (hpa zHp) rfl rfl 60 (hpa zHp) R8.out (by kernel_rfl) rfl (hpa_one _) ?_))
  refine bodyPost_ret (v := .tuple #[.slice none 0 0, .slice none 0 0, .agg (hpa zHp)]) ?_ rfl ?_
  · exact res_ttc Tryz.results20 rfl rfl rfl (R8.out.rset _) Tryz.underlying60 rfl (by rw [hpa_size]; exact infoHp)
  · exact ⟨rfl, below_setRow HB.out (show w.heap.size ≤ w.heap.size + 1 by omega) (hpa zHp)⟩
end Go.Proofs.YtomnpfbebimpkaaGreatDoor
