/-
  Packet: a packet comes to a unit.
-/
import Derived.Test.YtomnpfbebimpkaaGreatDoorUniTake
import Derived.Test.YtomnpfbebimpkaaGreatDoorRuleFnd
import Derived.Test.YtomnpfbebimpkaaGreatDoorLapHit
namespace Go.Proofs.YtomnpfbebimpkaaGreatDoor
set_option maxRecDepth 20000
open Go.RowKit

/-- a hop's cells -/
def hpl (x : Hp) : List Value := [.int .i64 0, .int .i64 x.port] ++ (hl x.head ++ ([.bool x.hit, .int .i64 x.prio] ++ cl x.m))
def hpa (x : Hp) : Array Value := (hpl x).toArray
theorem hpa_size (x : Hp) : (hpa x).size = 40 := by simp [hpa, hpl, hl, cl]
theorem hpa_zero : (#[Value.int IntKind.i64 0, Value.int IntKind.i64 0, Value.int IntKind.u64 0, Value.int IntKind.u64 0, Value.int IntKind.u64 0, Value.int IntKind.u64 0, Value.int IntKind.u64 0, Value.int IntKind.u64 0, Value.int IntKind.u64 0, Value.int IntKind.u64 0, Value.int IntKind.u64 0, Value.int IntKind.u64 0, Value.int IntKind.u64 0, Value.int IntKind.u64 0, Value.bool false, Value.int IntKind.i64 0, Value.int IntKind.u64 0, Value.int IntKind.u64 0, Value.int IntKind.u64 0, Value.int IntKind.u64 0, Value.int IntKind.u64 0, Value.int IntKind.u64 0, Value.int IntKind.u64 0, Value.int IntKind.u64 0, Value.int IntKind.u64 0, Value.int IntKind.u64 0, Value.int IntKind.u64 0, Value.int IntKind.u64 0, Value.int IntKind.u64 0, Value.int IntKind.u64 0, Value.int IntKind.u64 0, Value.int IntKind.u64 0, Value.int IntKind.u64 0, Value.int IntKind.u64 0, Value.int IntKind.u64 0, Value.int IntKind.u64 0, Value.int IntKind.u64 0, Value.int IntKind.u64 0, Value.int IntKind.u64 0, Value.int IntKind.u64 0] : Array Value) = hpa zHp := by kernel_rfl
theorem hpa_one (x : Hp) : (hpa x).all (·.oneCell') = true := by simp [hpa, hpl, hl, cl, Value.oneCell']
theorem infoHp : (Tryz.prog.info? 60).map (·.size) = some 40 := by kernel_rfl
theorem infoHc : (Tryz.prog.info? 35).map (·.size) = some 12 := by kernel_rfl
theorem infoU64c : (Tryz.prog.info? 33).map (·.size) = some 1 := by kernel_rfl
theorem hpa_hit (p : Int) (h m : Nat → Int) (k : Int) : (hpa ⟨p, h, false, k, m⟩).setIfInBounds 14 (.bool true) = hpa ⟨p, h, true, k, m⟩ := by
  apply Array.ext'
  simp [hpa, hpl, hl]
theorem hpa_prio (p : Int) (h m : Nat → Int) (k : Int) : (hpa ⟨p, h, true, 0, m⟩).setIfInBounds 15 (.int .i64 k) = hpa ⟨p, h, true, k, m⟩ := by
  apply Array.ext'
  simp [hpa, hpl, hl]
theorem hpa_rule {b : Nat} {p k : Int} {h m : Nat → Int} {W : World} (hb : Blk b (hpa ⟨p, h, true, k, fun _ => 0⟩) 60 W) : Blk b (hpa ⟨p, h, true, k, m⟩) 60 (W.setCells b 16 (cl m).toArray.toList) := by
  have h1 := heap_stM (g := b) (cl m) 16 W _ hb
  have e : stM (hpa ⟨p, h, true, k, fun _ => 0⟩) 16 (cl m) = hpa ⟨p, h, true, k, m⟩ := by kernel_rfl
  rw [e] at h1
  exact h1
theorem hc_upd (h : Nat → Int) (p : Int) : (hc h).setIfInBounds 0 (.int .u64 p) = hc (inH p h) := by kernel_rfl
theorem builtEd (p : Int) : Tryz.prog.built 58 [(1, .int .i64 p)] = some #[.int .i64 0, .int .i64 p] := by kernel_rfl
theorem builtHp (p : Int) (h : Nat → Int) : Tryz.prog.built 60 [(0, .agg #[.int .i64 0, .int .i64 p]), (1, .agg (hc h))] = some (hpa ⟨p, h, false, 0, fun _ => 0⟩) := by kernel_rfl
theorem builtHp0 : Tryz.prog.built 60 [] = some (hpa zHp) := by kernel_rfl
theorem buildEd {ops : Array Oper} {rest : List Oper} {o : Oper} {a : Act} {w : World} {Q : Exit → Act → World → Prop} (hg : o.guard = none) (x : Operand) (ho : o.op = .build 58 #[(1, x)]) (p : Int) (hx : a.eval x = .int .i64 p)
    (k : wpList Tryz.prog ops Q rest (a.put o.dst (.agg #[.int .i64 0, .int .i64 p])) w) : wpList Tryz.prog ops Q (o :: rest) a w := by
  have e : ((#[(1, x)] : Array (Nat × Operand)).map fun (p : Nat × Operand) => (p.1, a.eval p.2)).toList = [(1, .int .i64 p)] := by simp [hx]
  have e' := congrArg (Tryz.prog.built 58) e
  rw [builtEd] at e'
  refine wpList_build hg 58 _ ho (by rw [e']; rfl) ?_
  rw [e']
  exact k
theorem buildHp {ops : Array Oper} {rest : List Oper} {o : Oper} {a : Act} {w : World} {Q : Exit → Act → World → Prop} (hg : o.guard = none) (x y : Operand) (ho : o.op = .build 60 #[(0, x), (1, y)]) (p : Int) (h : Nat → Int)
    (hx : a.eval x = .agg #[.int .i64 0, .int .i64 p]) (hy : a.eval y = .agg (hc h)) (k : wpList Tryz.prog ops Q rest (a.put o.dst (.agg (hpa ⟨p, h, false, 0, fun _ => 0⟩))) w) : wpList Tryz.prog ops Q (o :: rest) a w := by
  have e : ((#[(0, x), (1, y)] : Array (Nat × Operand)).map fun (p : Nat × Operand) => (p.1, a.eval p.2)).toList = [(0, .agg #[.int .i64 0, .int .i64 p]), (1, .agg (hc h))] := by simp [hx, hy]
  have e' := congrArg (Tryz.prog.built 60) e
  rw [builtHp] at e'
  refine wpList_build hg 60 _ ho (by rw [e']; rfl) ?_
  rw [e']
  exact k
theorem buildHp0 {ops : Array Oper} {rest : List Oper} {o : Oper} {a : Act} {w : World} {Q : Exit → Act → World → Prop} (hg : o.guard = none) (ho : o.op = .build 60 #[]) (k : wpList Tryz.prog ops Q rest (a.put o.dst (.agg (hpa zHp))) w) : wpList Tryz.prog ops Q (o :: rest) a w := by
  have e : ((#[] : Array (Nat × Operand)).map fun (p : Nat × Operand) => (p.1, a.eval p.2)).toList = [] := by simp
  have e' := congrArg (Tryz.prog.built 60) e
  rw [builtHp0] at e'
  refine wpList_build hg 60 _ ho (by rw [e']; rfl) ?_
  rw [e']
  exact k
/-- a packet that is told -/
def pkG (p : Int) (h : Nat → Int) : Gm := ⟨8, 0, 0, zMm, p, h, none, 0, 0, []⟩
theorem builtPk (p : Int) (h : Nat → Int) : Tryz.prog.built 42 [(0, .int .i64 8), (4, .int .i64 p), (5, .agg (hc h))] = some (gca (pkG p h)) := by kernel_rfl
theorem buildPk {ops : Array Oper} {rest : List Oper} {o : Oper} {a : Act} {w : World} {Q : Exit → Act → World → Prop} (hg : o.guard = none) (x y z : Operand) (ho : o.op = .build 42 #[(0, x), (4, y), (5, z)]) (p : Int) (h : Nat → Int)
    (hx : a.eval x = .int .i64 8) (hy : a.eval y = .int .i64 p) (hz : a.eval z = .agg (hc h)) (k : wpList Tryz.prog ops Q rest (a.put o.dst (.agg (gca (pkG p h)))) w) : wpList Tryz.prog ops Q (o :: rest) a w := by
  have e : ((#[(0, x), (4, y), (5, z)] : Array (Nat × Operand)).map fun (p : Nat × Operand) => (p.1, a.eval p.2)).toList = [(0, .int .i64 8), (4, .int .i64 p), (5, .agg (hc h))] := by simp [hx, hy, hz]
  have e' := congrArg (Tryz.prog.built 42) e
  rw [builtPk] at e'
  refine wpList_build hg 42 _ ho (by rw [e']; rfl) ?_
  rw [e']
  exact k
theorem hF_view {n : Nat} {x : Um} (h : FitM n x) : WfUL x.un.view := h.fit.view
theorem fnd_map (h : Nat → Int) (l : List Rm) : fnd h l = fndU h (l.map (·.u)) := by
  unfold fnd fndU
  rw [List.findIdx?_map]
  rfl
theorem rangeOther {M : List Nat} {b o : Nat} {cs : List Value} {W W' : World} (k : Fr M W W') (h : W.rangeAt b o cs) (hn : b ∉ M) : W'.rangeAt b o cs := fun j u hu =>
  (World.cell?_of_block (a := ⟨b, o + j, none⟩) (k.keep b (World.block_lt_of_cell? _ _ (h j u hu)) hn)).trans (h j u hu)
/-- what Packet gives -/
def PktRet (x : Um) (B : Nat) (port : Int) (h : Nat → Int) (w : World) (e : Ending) (w' : World) : Prop :=
  ∃ (x' : Um) (vs va : Value) (gs : List Gm), e = .returned (.tuple #[vs, va, .agg (hpa (pktH x.un port h))]) ∧ KOwns KS w.heap.size vs (pktL x.un port h) w' ∧ gs.map (·.u) = pktA x.un port h ∧ AnsL w.heap.size va gs w' ∧
    x'.un = pktS x.un port h ∧ UniA B x' w' ∧ x'.p = x.p ∧ UFr x x' w w'
theorem res_ttc {fn : Func} {a b p : Tmp} {ty : TypeId} (h : fn.results = #[.tmp a, .tmp b, .cell p ty]) {tmps : Array Value} {P : Program} {w : World} {g : Nat} {t : TypeId} {cs : Array Value} {d : TypeDesc} {x y : Value}
    (ha : tmps.getD a undef = x) (hb : tmps.getD b undef = y) (hp : tmps.getD p undef = .pointer (some ⟨g, 0, none⟩)) (hg : Blk g cs t w) (hu : P.underlying ty = some d) (hd : d.isRow = true) (hi : (P.info? ty).map (·.size) = some cs.size) :
    (results fn tmps).run P w = .ok (.tuple #[x, y, .agg cs]) w := by
  have e := run_loadVar_row (P := P) w g t ty cs (0, 0) d hg hu (by cases d <;> first | rfl | (simp [TypeDesc.isRow] at hd)) hi
  simp only [results, h]
  rw [Array.getD_eq_getD_getElem?] at ha hb hp
  simp [ha, hb, hp, asAddr, e]
set_option maxHeartbeats 2000000 in
set_option maxRecDepth 100000 in
theorem un_pkt_bad (x : Um) (B : Nat) (port : Int) (hp : portB port = false) (h : Nat → Int) (w : World) (hU : UniA B x w) :
    Calls Tryz.prog 20 #[.pointer (some ⟨x.p, 0, none⟩), .int .i64 port, .agg (hc h)] w (PktRet x B port h w) := by
  have HP := Lib.hid hp
  have HB := Lib.hid (show Below w.heap.size w ((w.alloc (.cells (hc h) 35)).alloc (.cells (hpa zHp) 60)) from (below1 w _).trans ((below1 _ _).mono (below1 w _).size))
  have R8 := Lib.hid (Blk.new2 w (.cells (hc h) 35) (hpa zHp) 60)
  have HU0 := Lib.hid hU
  have hz := hpa_zero
  clear hU hp
  by_cases h1 : port < 1
  · have d1 : decide (port < 1) = true := decide_eq_true h1
    go_enter Tryz.func20, Tryz.ntmps20
    go_upto_region 2 with fail
    generalize hW : (w.alloc (.cells (hc h) 35)).alloc (.cells (hpa zHp) 60) = W at *
    clear hW
    go_wp2_with (first
      | (refine buildHp0 rfl rfl ?_)
      | (refine wpList_store_row rfl 60 _ _ rfl (w.heap.size + 1) (hpa zHp) rfl rfl 60 (hpa zHp) R8.out (by kernel_rfl) rfl (hpa_one _) ?_))
    refine bodyPost_ret (v := .tuple #[.slice none 0 0, .slice none 0 0, .agg (hpa zHp)]) ?_ rfl ?_
    · exact res_ttc Tryz.results20 rfl rfl rfl (R8.out.rset _) Tryz.underlying60 rfl (by rw [hpa_size]; exact infoHp)
    · have HB2 := below_setRow HB.out (show w.heap.size ≤ w.heap.size + 1 by omega) (hpa zHp)
      exact ⟨x, _, _, [], by unfold pktH; rw [if_pos HP.out], by unfold pktL; rw [if_pos HP.out]; exact KOwns.nil _ _, by unfold pktA; rw [if_pos HP.out]; rfl, AnsL.nil _ _, by unfold pktS; rw [if_pos HP.out], HU0.out.below HB2, rfl, UFr.of x HB2⟩
  · have h2 : 16 < port := by
      have := HP.out
      unfold portB at this
      rw [show decide (1 ≤ port) = true by simp; omega, Bool.true_and] at this
      simpa using this
    have d1 : decide (port < 1) = false := decide_eq_false h1
    have d2 : decide (16 < port) = true := decide_eq_true h2
    have d3 : decide (port > 16) = true := decide_eq_true h2
    go_enter Tryz.func20, Tryz.ntmps20
    go_upto_region 2 with fail
    generalize hW : (w.alloc (.cells (hc h) 35)).alloc (.cells (hpa zHp) 60) = W at *
    clear hW
    go_wp2_with (first
      | (refine buildHp0 rfl rfl ?_)
      | (refine wpList_store_row rfl 60 _ _ rfl (w.heap.size + 1) (hpa zHp) rfl rfl 60 (hpa zHp) R8.out (by kernel_rfl) rfl (hpa_one _) ?_))
    refine bodyPost_ret (v := .tuple #[.slice none 0 0, .slice none 0 0, .agg (hpa zHp)]) ?_ rfl ?_
    · exact res_ttc Tryz.results20 rfl rfl rfl (R8.out.rset _) Tryz.underlying60 rfl (by rw [hpa_size]; exact infoHp)
    · have HB2 := below_setRow HB.out (show w.heap.size ≤ w.heap.size + 1 by omega) (hpa zHp)
      exact ⟨x, _, _, [], by unfold pktH; rw [if_pos HP.out], by unfold pktL; rw [if_pos HP.out]; exact KOwns.nil _ _, by unfold pktA; rw [if_pos HP.out]; rfl, AnsL.nil _ _, by unfold pktS; rw [if_pos HP.out], HU0.out.below HB2, rfl, UFr.of x HB2⟩
set_option maxHeartbeats 4000000 in
set_option maxRecDepth 100000 in
theorem un_pkt_ok (x : Um) (B k : Nat) (hF : FitM k x) (port : Int) (hp : portB port = true) (h : Nat → Int) (hh : Wf (inH port h)) (w : World) (hU : UniA B x w) (ht : Tab w) (hz : 0 < B) :
    Calls Tryz.prog 20 #[.pointer (some ⟨x.p, 0, none⟩), .int .i64 port, .agg (hc h)] w (PktRet x B port h w) := by
  have HPB := Lib.hid hp
  have hp1 : 1 ≤ port := by unfold portB at hp; simp at hp; exact hp.1
  have hp2 : port ≤ 16 := by unfold portB at hp; simp at hp; exact hp.2
  have HB := Lib.hid (show Below w.heap.size w ((w.alloc (.cells (hc h) 35)).alloc (.cells (hpa zHp) 60)) from (below1 w _).trans ((below1 _ _).mono (below1 w _).size))
  have R5 := Lib.hid ((Blk.new w (hc h) 35).below (below1 _ (.cells (hpa zHp) 60)))
  have R8 := Lib.hid (Blk.new2 w (.cells (hc h) 35) (hpa zHp) 60)
  have HU0 := Lib.hid hU
  have HBW := Lib.hid (show B ≤ w.heap.size by have := hU.lt; have := hU.ge; omega)
  have HN5 := Lib.hid (show w.heap.size ∉ x.muts from fun hm => by have := hU.muts.lt _ hm; omega)
  have HN8 := Lib.hid (show w.heap.size + 1 ∉ x.muts from fun hm => by have := hU.muts.lt _ hm; omega)
  have HF := Lib.hid hF
  have HH := Lib.hid hh
  have HT := Lib.hid ht
  have HZ := Lib.hid hz
  have hzz := hpa_zero
  have d1 : decide (port < 1) = false := decide_eq_false (by omega)
  have d2 : decide (16 < port) = false := decide_eq_false (by omega)
  have d3 : decide (port > 16) = false := decide_eq_false (by omega)
  have e1 : IntKind.u64.wrap port = port := by rw [IntKind.wrap_u64]; omega
  have e2 : port % 18446744073709551616 = port := by omega
  clear hU hF hh ht hz hp
  obtain ⟨hd, hhd⟩ : ∃ hd, hd = inH port h := ⟨_, rfl⟩
  have HHD := Lib.hid hhd
  rw [← hhd] at HH
  clear hhd
  obtain ⟨b5, hb5⟩ : ∃ b5, b5 = w.heap.size := ⟨_, rfl⟩
  obtain ⟨b8, hb8⟩ : ∃ b8, b8 = w.heap.size + 1 := ⟨_, rfl⟩
  have HB58 := Lib.hid (And.intro hb5 hb8)
  go_enter Tryz.func20, Tryz.ntmps20
  go_upto_region 3 with fail
  rw [← hb8, ← hb5]
  rw [← hb8] at R8 HN8
  rw [← hb5] at R5 HN5
  clear hb5 hb8 hzz
  generalize hW : (w.alloc (.cells (hc h) 35)).alloc (.cells (hpa zHp) 60) = V0 at *
  clear hW
  have HTH := Lib.hid (show V0.there b5 0 1 from R5.out.there (by show 1 ≤ 12; decide))
  go_upto_region 4 with (refine storeCell rfl 33 _ _ rfl b5 0 (.int .u64 port) rfl rfl rfl HTH.out infoU64c ?_; refine Hid.out ?_)
  have R5b := Lib.hid (show Blk b5 (hc hd) 35 (V0.setCell ⟨b5, 0, none⟩ (.int .u64 port)) by
    have h := R5.out.one (k := 0) (.int .u64 port)
    rw [hc_upd, ← HHD.out] at h
    exact h)
  have R8b := Lib.hid (show Blk b8 (hpa zHp) 60 (V0.setCell ⟨b5, 0, none⟩ (.int .u64 port)) from (heap_setCell_other _ _ _ _ (show b8 ≠ b5 by have := HB58.out; omega)).trans R8.out)
  have HB1 := Lib.hid (HB.out.setCell (p := ⟨b5, 0, none⟩) (show w.heap.size ≤ b5 by have := HB58.out.1; omega) (.int .u64 port))
  clear HTH R5 R8 HB e1 e2
  generalize V0.setCell ⟨b5, 0, none⟩ (.int .u64 port) = V1 at *
  refine Lib.hid ?_
  go_upto_region 6 with (first
    | (refine buildEd rfl _ rfl port rfl ?_)
    | (refine wpList_load_row rfl 35 _ rfl b5 rfl 35 (hc hd) (0, 0) _ R5b.out Tryz.underlying35 rfl infoHc ?_)
    | (refine buildHp rfl _ _ rfl port hd rfl rfl ?_)
    | (refine wpList_store_row rfl 60 _ _ rfl b8 (hpa ⟨port, hd, false, 0, fun _ => 0⟩) rfl rfl 60 (hpa zHp) R8b.out (by kernel_rfl) rfl (hpa_one _) ?_))
  have R5c := Lib.hid (show Blk b5 (hc hd) 35 (V1.setRow b8 (hpa ⟨port, hd, false, 0, fun _ => 0⟩)) from (setRow_other _ _ _ _ (show b5 ≠ b8 by have := HB58.out; omega)).trans R5b.out)
  have R8c := Lib.hid (R8b.out.rset (hpa ⟨port, hd, false, 0, fun _ => 0⟩))
  have HB2 := Lib.hid (below_setRow HB1.out (show w.heap.size ≤ b8 by have := HB58.out.2; omega) (hpa ⟨port, hd, false, 0, fun _ => 0⟩))
  clear R5b R8b HB1
  generalize V1.setRow b8 (hpa ⟨port, hd, false, 0, fun _ => 0⟩) = V2 at *
  have HT2 := Lib.hid (Env.at_ HT.out HZ.out (HB2.out.mono HBW.out) HBW.out)
  have HU2 := Lib.hid (HU0.out.below HB2.out)
  have HVW := Lib.hid (un_view x B k HF.out V2 HU2.out HT2.out.1 HT2.out.2)
  go_upto_region 7 with (go_at_call 36; refine HVW.out.mono ?_; rintro e V3 ⟨vv, Lv, rfl, huv, hov, hv3⟩; refine Hid.out ?_)
  have HUV := Lib.hid huv
  have HOV := Lib.hid hov
  have HB3 := Lib.hid (HB2.out.trans (hv3.mono HB2.out.size))
  have R5d := Lib.hid (R5c.out.below hv3)
  have R8d := Lib.hid (R8c.out.below hv3)
  have HT3 := Lib.hid (Env.at_ HT.out HZ.out (HB3.out.mono HBW.out) HBW.out)
  have HWV := Lib.hid (show WfRL Lv from (hF_view HF.out).rl huv)
  have HLV := Lib.hid (show Lv.length ≤ 9000 by have h1 := congrArg List.length huv; have h2 := HF.out.fit.view_len; have h3 := HF.out.n; rw [List.length_map] at h1; omega)
  obtain ⟨fi, hfi⟩ : ∃ fi : Nat, fi = (fnd hd Lv).getD 0 := ⟨_, rfl⟩
  obtain ⟨fb, hfb⟩ : ∃ fb : Bool, fb = (fnd hd Lv).isSome := ⟨_, rfl⟩
  have HFI := Lib.hid (And.intro hfi hfb)
  have HFV := Lib.hid (show Calls Tryz.prog 44 #[vv, .agg (hc hd)] V3 fun e w' => e = .returned (.tuple #[.int .i64 (fi : Int), .bool fb]) ∧ Below V3.heap.size V3 w' by
    rw [hfi, hfb]
    exact find_any vv Lv hd (by have := HLV.out; omega) HWV.out HH.out V3 hov.lies HT3.out.1 HT3.out.2)
  clear hfi hfb huv hov hv3 R5c R8c HB2 HT2 HU2 HVW
  refine Lib.hid ?_
  go_upto_if 41 with (first
    | (refine wpList_load_row rfl 35 _ rfl b5 rfl 35 (hc hd) (0, 0) _ R5d.out Tryz.underlying35 rfl infoHc ?_)
    | (go_at_call 44; refine HFV.out.mono ?_; rintro e V4 ⟨rfl, hv4⟩))
  have HB4 := Lib.hid (HB3.out.trans (hv4.mono HB3.out.size))
  have R5e := Lib.hid (R5d.out.below hv4)
  have R8e := Lib.hid (R8d.out.below hv4)
  have HOE := Lib.hid (HOV.out.below hv4)
  clear hv4 R5d R8d HB3 HT3 HFV HOV
  go_cut [6, 9] (fun s6 s9 W => s9 = .bool (pktT x.un port h) ∧ KOwns KS w.heap.size s6 (pktL x.un port h) W ∧ Blk b5 (hc hd) 35 W ∧ Blk b8 (hpa (pktH x.un port h)) 60 W ∧ Below w.heap.size w W)
  case first =>
    cases fb
    · have HNO := Lib.hid (show fndU (inH port h) x.un.view = none by
        rw [← HHD.out, ← HUV.out, ← fnd_map]
        have := HFI.out.2
        cases hq : fnd hd Lv with
        | none => rfl
        | some j => rw [hq] at this; cases this)
      go_wp2_with fail
      go_meet
      case rel =>
        refine ⟨by unfold pktT; rw [HNO.out], by unfold pktL; rw [if_neg (by rw [HPB.out]; decide), HNO.out]; exact KOwns.nil _ _, R5e.out, ?_, HB4.out⟩
        unfold pktH
        rw [if_neg (by rw [HPB.out]; decide), HNO.out, ← HHD.out]
        exact R8e.out
    · have HYE := Lib.hid (show fnd hd Lv = some fi by
        have h1 := HFI.out.1
        have h2 := HFI.out.2
        cases hq : fnd hd Lv with
        | none => rw [hq] at h2; cases h2
        | some j => rw [hq] at h1; rw [h1]; rfl)
      obtain ⟨i, hi⟩ : ∃ i, i = fi := ⟨_, rfl⟩
      subst hi
      have hlt : i < Lv.length := by
        have := HYE.out
        unfold fnd at this
        rw [List.findIdx?_eq_some_iff_getElem] at this
        exact this.1
      obtain ⟨y, hy⟩ := lt_some hlt
      have HY := Lib.hid hy
      have HSM := Lib.hid (show fndU (inH port h) x.un.view = some i by rw [← HHD.out, ← HUV.out, ← fnd_map]; exact HYE.out)
      have HRU := Lib.hid (show ruAt x.un.view i = y.u by unfold ruAt; rw [← HUV.out, List.getElem?_map, hy]; rfl)
      rcases HOE.out.1.kat okR with ⟨_, h0⟩ | ⟨gv, cp, hvv, hgv, hA⟩
      · rw [h0] at hlt
        exact absurd hlt (Nat.not_lt_zero _)
      subst hvv
      have HA := Lib.hid (hA.range hy)
      have HTG := Lib.hid (HOE.out.1.typ (show (Value.slice (some ⟨gv, 0, none⟩) Lv.length cp).ownBlock = some gv from rfl))
      have HNE := Lib.hid (show gv ∉ [b8] from fun hm => by
        simp only [List.mem_cons, List.not_mem_nil, or_false] at hm
        subst hm
        exact Typ.ne HTG.out R8e.out.typ (by decide) rfl)
      obtain ⟨ln, hln⟩ : ∃ ln, ln = Lv.length := ⟨_, rfl⟩
      rw [← hln] at hlt
      have hltI : (i : Int) < (ln : Int) := by omega
      have hiB : (i : Int) ≤ 9000 := by have := HLV.out; omega
      have HLN := Lib.hid hln
      rw [← hln]
      clear hln hy hA hgv
      go_upto_region 9 with fail
      have RB := Lib.hid (show Blk b8 (hpa ⟨port, hd, false, 0, fun _ => 0⟩) 60 V4.drew from R8e.out.drew)
      have HDW := Lib.hid (show Below V4.heap.size V4 V4.drew from (Below.refl _ _).drew)
      have R5f := Lib.hid (R5e.out.below HDW.out)
      have HB5 := Lib.hid (HB4.out.trans (HDW.out.mono HB4.out.size))
      have HOF := Lib.hid (HOE.out.below HDW.out)
      refine wp_region_held_drew (S := fun W' => W'.rangeAt gv (i * 32) (rcl y)) (by kernel_rfl) (show V4.drew.rangeAt gv (i * 32) (rcl y) from HA.out) (fun hS => ?_)
      clear HDW R8e HA HOE R5e HB4
      generalize V4.drew = W at *
      refine seqRead 0 (v := _) rfl (by kernel_rfl) (by kernel_rfl) (by kernel_rfl) (fun _ _ _ h => h) rfl (fun w hSw => by go_simp <;> with_reducible rfl) hS ?_
      try simp only [Act.put, List.setIfInBounds_toArray, List.set_cons_zero, List.set_cons_succ]
      refine seqRead 1 (v := _) rfl (by kernel_rfl) (by kernel_rfl) (by kernel_rfl) (fun _ _ _ h => h) rfl (fun w hSw => by go_simp <;> with_reducible rfl) hS ?_
      try simp only [Act.put, List.setIfInBounds_toArray, List.set_cons_zero, List.set_cons_succ]
      refine seqRead 2 (v := _) rfl (by kernel_rfl) (by kernel_rfl) (by kernel_rfl) (fun _ _ _ h => h) rfl (fun w hSw => by go_simp <;> with_reducible rfl) hS ?_
      try simp only [Act.put, List.setIfInBounds_toArray, List.set_cons_zero, List.set_cons_succ]
      refine seqRead 3 (v := _) rfl (by kernel_rfl) (by kernel_rfl) (by kernel_rfl) (fun _ _ _ h => h) rfl (fun w hSw => by go_simp <;> with_reducible rfl) hS ?_
      try simp only [Act.put, List.setIfInBounds_toArray, List.set_cons_zero, List.set_cons_succ]
      refine seqRead 4 (v := _) rfl (by kernel_rfl) (by kernel_rfl) (by kernel_rfl) (fun _ _ _ h => h) rfl (fun w hSw => (by have c := (cellsR_mid hSw).p; go_simp <;> with_reducible rfl)) hS ?_
      try simp only [Act.put, List.setIfInBounds_toArray, List.set_cons_zero, List.set_cons_succ]
      refine seqRead 5 (v := _) rfl (by kernel_rfl) (by kernel_rfl) (by kernel_rfl) (fun _ _ _ h => h) rfl (fun w hSw => by go_simp <;> with_reducible rfl) hS ?_
      try simp only [Act.put, List.setIfInBounds_toArray, List.set_cons_zero, List.set_cons_succ]
      refine seqRead 6 (v := _) rfl (by kernel_rfl) (by kernel_rfl) (by kernel_rfl) (fun _ _ _ h => h) rfl (fun w hSw => by go_simp <;> with_reducible rfl) hS ?_
      try simp only [Act.put, List.setIfInBounds_toArray, List.set_cons_zero, List.set_cons_succ]
      refine seqRead 7 (v := _) rfl (by kernel_rfl) (by kernel_rfl) (by kernel_rfl) (fun _ _ _ h => h) rfl (fun w hSw => by go_simp <;> with_reducible rfl) hS ?_
      try simp only [Act.put, List.setIfInBounds_toArray, List.set_cons_zero, List.set_cons_succ]
      refine seqRead 8 (v := _) rfl (by kernel_rfl) (by kernel_rfl) (by kernel_rfl) (fun _ _ _ h => h) rfl (fun w hSw => by go_simp <;> with_reducible rfl) hS ?_
      try simp only [Act.put, List.setIfInBounds_toArray, List.set_cons_zero, List.set_cons_succ]
      refine seqRead 9 (v := _) rfl (by kernel_rfl) (by kernel_rfl) (by kernel_rfl) (fun _ _ _ h => h) rfl (fun w hSw => (show (execOp _ _).run _ w = .ok (.value (.agg (cl y.u.m).toArray)) w from execRow rfl gv (i * 32) rfl (cl y.u.m) _ (cellsR_mid hSw).m Tryz.underlying37 rfl infoCube)) hS ?_
      try simp only [Act.put, List.setIfInBounds_toArray, List.set_cons_zero, List.set_cons_succ]
      refine seqRead 10 (v := _) rfl (by kernel_rfl) (by kernel_rfl) (by kernel_rfl) (fun _ _ _ h => h) rfl (fun w hSw => by go_simp <;> with_reducible rfl) hS ?_
      try simp only [Act.put, List.setIfInBounds_toArray, List.set_cons_zero, List.set_cons_succ]
      refine seqCall 11 rfl (by kernel_rfl) rfl (fun K hK => ?_)
      have HTH := Lib.hid (show W.there b8 14 1 from RB.out.there (by rw [hpa_size]; decide))
      refine stWp 4 _ _ rfl b8 14 (.bool true) rfl rfl rfl HTH.out infoBool ?_
      have RB1 := Lib.hid (show Blk b8 (hpa ⟨port, hd, true, 0, fun _ => 0⟩) 60 (W.setCell ⟨b8, 14, none⟩ (.bool true)) by have h := RB.out.one (k := 14) (.bool true); rw [hpa_hit] at h; exact h)
      have HF1 := Lib.hid (Fr.cell W ⟨b8, 14, none⟩ (.bool true) (M := [b8]) (by simp))
      refine hK.out _ _ (rangeOther HF1.out hS HNE.out) (fun hS => ?_)
      clear hK K HTH
      generalize hW1 : W.setCell ⟨b8, 14, none⟩ (.bool true) = W1 at *
      clear hW1
      try simp only [Act.put]
      refine seqRead 12 (v := _) rfl (by kernel_rfl) (by kernel_rfl) (by kernel_rfl) (fun _ _ _ h => h) rfl (fun w hSw => by go_simp <;> with_reducible rfl) hS ?_
      try simp only [Act.put, List.setIfInBounds_toArray, List.set_cons_zero, List.set_cons_succ]
      refine seqCall 13 rfl (by kernel_rfl) rfl (fun K hK => ?_)
      have HTH := Lib.hid (show W1.there b8 15 1 from RB1.out.there (by rw [hpa_size]; decide))
      refine stWp 3 _ _ rfl b8 15 (.int .i64 y.u.p) rfl rfl rfl HTH.out infoInt0 ?_
      have RB2 := Lib.hid (show Blk b8 (hpa ⟨port, hd, true, y.u.p, fun _ => 0⟩) 60 (W1.setCell ⟨b8, 15, none⟩ (.int .i64 y.u.p)) by have h := RB1.out.one (k := 15) (.int .i64 y.u.p); rw [hpa_prio] at h; exact h)
      have HF2 := Lib.hid (Fr.cell W1 ⟨b8, 15, none⟩ (.int .i64 y.u.p) (M := [b8]) (by simp))
      refine hK.out _ _ (rangeOther HF2.out hS HNE.out) (fun hS => ?_)
      clear hK K HTH
      generalize hW2 : W1.setCell ⟨b8, 15, none⟩ (.int .i64 y.u.p) = W2 at *
      clear hW2
      try simp only [Act.put]
      refine seqRead 14 (v := _) rfl (by kernel_rfl) (by kernel_rfl) (by kernel_rfl) (fun _ _ _ h => h) rfl (fun w hSw => by go_simp <;> with_reducible rfl) hS ?_
      try simp only [Act.put, List.setIfInBounds_toArray, List.set_cons_zero, List.set_cons_succ]
      refine seqCall 15 rfl (by kernel_rfl) rfl (fun K hK => ?_)
      have HTH := Lib.hid (show W2.there b8 16 (cl y.u.m).toArray.size from RB2.out.there (by rw [hpa_size]; simp [cl]))
      refine wp_store_mid 37 _ _ rfl b8 16 (cl y.u.m).toArray rfl rfl HTH.out (by kernel_rfl) (by simp [cl, Value.oneCell']) ?_
      have RB3 := Lib.hid (hpa_rule (m := y.u.m) RB2.out)
      have HF3 := Lib.hid (show Fr [b8] W2 (W2.setCells b8 16 (cl y.u.m).toArray.toList) from Fr.grown (grown_stM _ _ _) fun k hk => by injection hk with hk; subst hk; simp)
      refine hK.out _ _ (rangeOther HF3.out hS HNE.out) (fun hS => ?_)
      clear hK K HTH
      generalize hW3 : W2.setCells b8 16 (cl y.u.m).toArray.toList = W3 at *
      clear hW3
      try simp only [Act.put]
      refine seqDone (by kernel_rfl) ?_
      clear hS
      have HF3f := Lib.hid (show Fr [b8] W W3 from (HF1.out.tr HF2.out).tr HF3.out)
      have HB6 := Lib.hid (show Below w.heap.size w W3 from HB5.out.trans (HF3f.out.below (B := w.heap.size) (fun g hg => by
        simp only [List.mem_cons, List.not_mem_nil, or_false] at hg
        have := HB58.out.2
        omega) HB5.out.size (Below.refl _ _)))
      have R5g := Lib.hid (HF3f.out.blk R5f.out (fun hm => by
        simp only [List.mem_cons, List.not_mem_nil, or_false] at hm
        have := HB58.out
        omega))
      have HAA := Lib.hid (rangeOther HF3f.out ((show KAt KR gv cp Lv W from (KOwns.kat okR HOF.out.1).elim (fun q => by cases q.1) (fun ⟨g', c', e, _, hA⟩ => by injection e with e1 _ e3; injection e1 with e1; injection e1 with e1; subst e1; subst e3; exact hA)).range HY.out) HNE.out)
      have HAY0 := Lib.hid (show OwnA B y W3 from HF3f.out.owns (HOF.out.2 y (List.mem_of_getElem? HY.out)) fun g hg hm => by
        simp only [List.mem_cons, List.not_mem_nil, or_false] at hm
        subst hm
        exact Typ.ne ((HOF.out.2 y (List.mem_of_getElem? HY.out)).typ hg) RB.out.typ (by decide) rfl)
      have HWY := Lib.hid (HWV.out.at HY.out)
      clear HF1 HF2 HF3 RB RB1 RB2 HOF R5f HB5 HF3f
      go_upto_region 10 with fail
      have HDW := Lib.hid (show Below W3.heap.size W3 W3.drew from (Below.refl _ _).drew)
      have HB7 := Lib.hid (HB6.out.trans (HDW.out.mono HB6.out.size))
      have HAY := Lib.hid ((HAY0.out.below HDW.out).inA)
      have HE5 := Lib.hid (Env.at_ HT.out HZ.out (HB7.out.mono HBW.out) HBW.out)
      have RB3d := Lib.hid (RB3.out.below HDW.out)
      refine wp_region_held_drew (S := fun W' => W'.rangeAt gv (i * 32) (rcl y) ∧ Blk b5 (hc hd) 35 W') (by kernel_rfl) ⟨show W3.drew.rangeAt gv (i * 32) (rcl y) from HAA.out, R5g.out.below HDW.out⟩ (fun hS => ?_)
      clear HDW HAA HAY0 R5g RB3 HB6
      generalize W3.drew = W5 at *
      refine seqRead 0 (v := _) rfl (by kernel_rfl) (by kernel_rfl) (by kernel_rfl) (fun _ _ _ h => h) rfl (fun w hSw => by go_simp <;> with_reducible rfl) hS ?_
      try simp only [Act.put, List.setIfInBounds_toArray, List.set_cons_zero, List.set_cons_succ]
      refine seqRead 1 (v := _) rfl (by kernel_rfl) (by kernel_rfl) (by kernel_rfl) (fun _ _ _ h => h) rfl (fun w hSw => by go_simp <;> with_reducible rfl) hS ?_
      try simp only [Act.put, List.setIfInBounds_toArray, List.set_cons_zero, List.set_cons_succ]
      refine seqRead 2 (v := _) rfl (by kernel_rfl) (by kernel_rfl) (by kernel_rfl) (fun _ _ _ h => h) rfl (fun w hSw => by go_simp <;> with_reducible rfl) hS ?_
      try simp only [Act.put, List.setIfInBounds_toArray, List.set_cons_zero, List.set_cons_succ]
      refine seqRead 3 (v := _) rfl (by kernel_rfl) (by kernel_rfl) (by kernel_rfl) (fun _ _ _ h => h) rfl (fun w hSw => by go_simp <;> with_reducible rfl) hS ?_
      try simp only [Act.put, List.setIfInBounds_toArray, List.set_cons_zero, List.set_cons_succ]
      refine seqRead 4 (v := _) rfl (by kernel_rfl) (by kernel_rfl) (by kernel_rfl) (fun _ _ _ h => h) rfl (fun w hSw => (by have c := (cellsR_mid hSw.1).s; go_simp <;> with_reducible rfl)) hS ?_
      try simp only [Act.put, List.setIfInBounds_toArray, List.set_cons_zero, List.set_cons_succ]
      refine seqRead 5 (v := _) rfl (by kernel_rfl) (by kernel_rfl) (by kernel_rfl) (fun _ _ _ h => h) rfl (fun w hSw => (show (execOp _ _).run _ w = .ok (.value (.agg (hc hd))) w from execRow0 rfl b5 rfl hSw.2 Tryz.underlying35 rfl infoHc)) hS ?_
      try simp only [Act.put, List.setIfInBounds_toArray, List.set_cons_zero, List.set_cons_succ]
      refine seqCall 6 rfl (by kernel_rfl) rfl (fun K hK => ?_)
      go_simp
      refine (run_any (.slice y.q y.n y.c) y.u.acts hd HWY.out.len HWY.out.a W5 HAY.out HE5.out.1 HE5.out.2).mono ?_
      rintro e W6 ⟨vs, rfl, hso, hw6⟩
      obtain ⟨ps, cps, es⟩ := hso.form
      subst es
      have HSO := Lib.hid hso
      have HB6 := Lib.hid hw6
      refine hK.out _ _ ⟨fun j u hu => (hw6.cell (p := ⟨gv, i * 32 + j, none⟩) (World.block_lt_of_cell? _ _ (hS.1 j u hu))).trans (hS.1 j u hu), hS.2.below hw6⟩ (fun hS => ?_)
      clear hK K hso hw6
      try simp only [Act.put, List.setIfInBounds_toArray, List.set_cons_zero, List.set_cons_succ]
      refine seqRead 7 (v := _) rfl (by kernel_rfl) (by kernel_rfl) (by kernel_rfl) (fun _ _ _ h => h) rfl (fun w hSw => by go_simp <;> with_reducible rfl) hS ?_
      try simp only [Act.put, List.setIfInBounds_toArray, List.set_cons_zero, List.set_cons_succ]
      refine seqRead 8 (v := _) rfl (by kernel_rfl) (by kernel_rfl) (by kernel_rfl) (fun _ _ _ h => h) rfl (fun w hSw => by go_simp <;> with_reducible rfl) hS ?_
      try simp only [Act.put, List.setIfInBounds_toArray, List.set_cons_zero, List.set_cons_succ]
      refine seqRead 9 (v := _) rfl (by kernel_rfl) (by kernel_rfl) (by kernel_rfl) (fun _ _ _ h => h) rfl (fun w hSw => by go_simp <;> with_reducible rfl) hS ?_
      try simp only [Act.put, List.setIfInBounds_toArray, List.set_cons_zero, List.set_cons_succ]
      refine seqRead 10 (v := _) rfl (by kernel_rfl) (by kernel_rfl) (by kernel_rfl) (fun _ _ _ h => h) rfl (fun w hSw => by go_simp <;> with_reducible rfl) hS ?_
      try simp only [Act.put, List.setIfInBounds_toArray, List.set_cons_zero, List.set_cons_succ]
      refine seqRead 11 (v := _) rfl (by kernel_rfl) (by kernel_rfl) (by kernel_rfl) (fun _ _ _ h => h) rfl (fun w hSw => by go_simp <;> with_reducible rfl) hS ?_
      try simp only [Act.put, List.setIfInBounds_toArray, List.set_cons_zero, List.set_cons_succ]
      refine seqDone (by kernel_rfl) ?_
      have R5h := Lib.hid hS.2
      have RB4 := Lib.hid (RB3d.out.below HB6.out)
      have HB8 := Lib.hid (HB7.out.trans (HB6.out.mono HB7.out.size))
      clear hS RB3d
      go_wp2_with fail
      have eln := HLN.out
      subst eln
      go_meet
      case rel =>
        refine ⟨by unfold pktT; rw [HSM.out]; show _ = Value.bool (runB (ruAt x.un.view i).acts); rw [HRU.out], ?_, R5h.out, ?_, HB8.out⟩
        · unfold pktL
          rw [if_neg (by rw [HPB.out]; decide), HSM.out]
          show KOwns KS w.heap.size _ (runV (ruAt x.un.view i).acts (inH port h)) _
          rw [HRU.out, ← HHD.out]
          exact HSO.out.mono HB7.out.size
        · unfold pktH
          rw [if_neg (by rw [HPB.out]; decide), HSM.out]
          show Blk b8 (hpa ⟨port, inH port h, true, (ruAt x.un.view i).p, (ruAt x.un.view i).m⟩) 60 _
          rw [HRU.out, ← HHD.out]
          exact RB4.out
  case rest =>
  clear R5e R8e HOE HB4 HFI HLV HWV HUV
  obtain ⟨rfl, hks, h5, h8, hbc⟩ := hcut
  have HKS := Lib.hid hks
  have H5 := Lib.hid h5
  have H8 := Lib.hid h8
  have HBC := Lib.hid hbc
  clear hks h5 h8 hbc
  obtain ⟨tb, htb⟩ : ∃ tb, tb = pktT x.un port h := ⟨_, rfl⟩
  have HTB := Lib.hid htb
  rw [← htb]
  clear htb
  obtain ⟨HP, hHP⟩ : ∃ HP, HP = pktH x.un port h := ⟨_, rfl⟩
  have HHP := Lib.hid hHP
  rw [← hHP] at H8
  clear hHP
  obtain ⟨pb, cb, hvb⟩ := HU0.out.base.1.form
  have HVB := Lib.hid hvb
  have HWB := Lib.hid HF.out.wfR
  have hlb : x.L.length ≤ 9000 := by have := HF.out.len; omega
  obtain ⟨nb, hnb⟩ : ∃ nb, nb = x.L.length := ⟨_, rfl⟩
  have HNB := Lib.hid hnb
  rw [← hnb] at HVB hlb
  clear hvb hnb
  obtain ⟨fj, hfj⟩ : ∃ fj : Nat, fj = (fnd hd x.L).getD 0 := ⟨_, rfl⟩
  obtain ⟨fc, hfc⟩ : ∃ fc : Bool, fc = (fnd hd x.L).isSome := ⟨_, rfl⟩
  have HFJ := Lib.hid (And.intro hfj hfc)
  have HFB := Lib.hid (show ∀ W : World, UniA B x W → Tab W → 0 < W.heap.size → Calls Tryz.prog 44 #[.slice pb nb cb, .agg (hc hd)] W fun e w' => e = .returned (.tuple #[.int .i64 (fj : Int), .bool fc]) ∧ Below W.heap.size W w' from fun W hU' ht' hz' => by
    rw [hfj, hfc]
    exact find_any (.slice pb nb cb) x.L hd (by rw [← HNB.out]; omega) HWB.out HH.out W (by rw [← HVB.out]; exact hU'.base.lies) ht' hz')
  clear hfj hfc
  go_upto_region 11 with fail
  have HDW := Lib.hid (show Below wc.heap.size wc wc.drew from (Below.refl _ _).drew)
  have HBD := Lib.hid (HBC.out.trans (HDW.out.mono HBC.out.size))
  have HU := Lib.hid (HU0.out.below HBD.out)
  have HE := Lib.hid (Env.at_ HT.out HZ.out (HBD.out.mono HBW.out) HBW.out)
  have HKD := Lib.hid (HKS.out.below HDW.out)
  have H8D := Lib.hid (H8.out.below HDW.out)
  refine wp_region_held_drew (S := fun W' => W'.cell? ⟨x.p, 1, none⟩ = some (.slice pb nb cb) ∧ Blk b5 (hc hd) 35 W') (by kernel_rfl) ⟨by rw [← HVB.out]; exact HU.out.vb_, H5.out.below HDW.out⟩ (fun hS => ?_)
  clear HDW HBC HKS H8 H5
  generalize wc.drew = W at *
  refine seqRead 0 (v := _) rfl (by kernel_rfl) (by kernel_rfl) (by kernel_rfl) (fun _ _ _ h => h) rfl (fun w hSw => by go_simp <;> with_reducible rfl) hS ?_
  try simp only [Act.put, List.setIfInBounds_toArray, List.set_cons_zero, List.set_cons_succ]
  refine seqRead 1 (v := _) rfl (by kernel_rfl) (by kernel_rfl) (by kernel_rfl) (fun _ _ _ h => h) rfl (fun w hSw => by go_simp <;> with_reducible rfl) hS ?_
  try simp only [Act.put, List.setIfInBounds_toArray, List.set_cons_zero, List.set_cons_succ]
  refine seqRead 2 (v := _) rfl (by kernel_rfl) (by kernel_rfl) (by kernel_rfl) (fun _ _ _ h => h) rfl (fun w hSw => by go_simp <;> with_reducible rfl) hS ?_
  try simp only [Act.put, List.setIfInBounds_toArray, List.set_cons_zero, List.set_cons_succ]
  refine seqRead 3 (v := _) rfl (by kernel_rfl) (by kernel_rfl) (by kernel_rfl) (fun _ _ _ h => h) rfl (fun w hSw => (by have c := hSw.1; go_simp <;> with_reducible rfl)) hS ?_
  try simp only [Act.put, List.setIfInBounds_toArray, List.set_cons_zero, List.set_cons_succ]
  refine seqRead 4 (v := _) rfl (by kernel_rfl) (by kernel_rfl) (by kernel_rfl) (fun _ _ _ h => h) rfl (fun w hSw => (show (execOp _ _).run _ w = .ok (.value (.agg (hc hd))) w from execRow0 rfl b5 rfl hSw.2 Tryz.underlying35 rfl infoHc)) hS ?_
  try simp only [Act.put, List.setIfInBounds_toArray, List.set_cons_zero, List.set_cons_succ]
  refine seqCall 5 rfl (by kernel_rfl) rfl (fun K hK => ?_)
  go_simp
  refine (HFB.out W HU.out HE.out.1 HE.out.2).mono ?_
  rintro e W2 ⟨rfl, hw2⟩
  have HB2 := Lib.hid hw2
  refine hK.out _ _ ⟨(hw2.cell (p := ⟨x.p, 1, none⟩) (World.block_lt_of_cell? _ _ hS.1)).trans hS.1, hS.2.below hw2⟩ (fun hS => ?_)
  clear hK K hw2
  try simp only [Act.put, List.setIfInBounds_toArray, List.set_cons_zero, List.set_cons_succ]
  refine seqRead 6 (v := _) rfl (by kernel_rfl) (by kernel_rfl) (by kernel_rfl) (fun _ _ _ h => h) rfl (fun w hSw => by go_simp <;> with_reducible rfl) hS ?_
  try simp only [Act.put, List.setIfInBounds_toArray, List.set_cons_zero, List.set_cons_succ]
  refine seqRead 7 (v := _) rfl (by kernel_rfl) (by kernel_rfl) (by kernel_rfl) (fun _ _ _ h => h) rfl (fun w hSw => by go_simp <;> with_reducible rfl) hS ?_
  try simp only [Act.put, List.setIfInBounds_toArray, List.set_cons_zero, List.set_cons_succ]
  refine seqRead 8 (v := _) rfl (by kernel_rfl) (by kernel_rfl) (by kernel_rfl) (fun _ _ _ h => h) rfl (fun w hSw => by go_simp <;> with_reducible rfl) hS ?_
  try simp only [Act.put, List.setIfInBounds_toArray, List.set_cons_zero, List.set_cons_succ]
  refine seqRead 9 (v := _) rfl (by kernel_rfl) (by kernel_rfl) (by kernel_rfl) (fun _ _ _ h => h) rfl (fun w hSw => by go_simp <;> with_reducible rfl) hS ?_
  try simp only [Act.put, List.setIfInBounds_toArray, List.set_cons_zero, List.set_cons_succ]
  refine seqRead 10 (v := _) rfl (by kernel_rfl) (by kernel_rfl) (by kernel_rfl) (fun _ _ _ h => h) rfl (fun w hSw => by go_simp <;> with_reducible rfl) hS ?_
  try simp only [Act.put, List.setIfInBounds_toArray, List.set_cons_zero, List.set_cons_succ]
  refine seqDone (by kernel_rfl) ?_
  have H52 := Lib.hid hS.2
  have HU2 := Lib.hid (HU.out.below HB2.out)
  have HKE := Lib.hid (HKD.out.below HB2.out)
  have H8E := Lib.hid (H8D.out.below HB2.out)
  have HBE := Lib.hid (HBD.out.trans (HB2.out.mono HBD.out.size))
  clear hS HU HE HKD H8D HBD HB2 HFB
  go_upto_if 74 with fail
  go_cut [] (fun W => ∃ x' : Um, x'.un = pktS x.un port h ∧ UniA B x' W ∧ x'.p = x.p ∧ UFr x x' w W ∧ KOwns KS w.heap.size u6 (pktL x.un port h) W ∧ Blk b5 (hc hd) 35 W ∧ Blk b8 (hpa HP) 60 W ∧ b8 ∉ x'.muts)
  case first =>
    cases fc
    · have HNO := Lib.hid (show fndU (inH port h) x.un.base = none by
        show fndU (inH port h) (x.L.map (·.u)) = none
        rw [← HHD.out, ← fnd_map]
        have := HFJ.out.2
        cases hq : fnd hd x.L with
        | none => rfl
        | some j => rw [hq] at this; cases this)
      go_wp2_with fail
      go_meet
      case rel => exact ⟨x, by unfold pktS; rw [if_neg (by rw [HPB.out]; decide), HNO.out], HU2.out, rfl, UFr.of x HBE.out, HKE.out, H52.out, H8E.out, HN8.out⟩
    · have HYE := Lib.hid (show fnd hd x.L = some fj by
        have h1 := HFJ.out.1
        have h2 := HFJ.out.2
        cases hq : fnd hd x.L with
        | none => rw [hq] at h2; cases h2
        | some j => rw [hq] at h1; rw [h1]; rfl)
      have HSM := Lib.hid (show fndU (inH port h) x.un.base = some fj by
        show fndU (inH port h) (x.L.map (·.u)) = some fj
        rw [← HHD.out, ← fnd_map]
        exact HYE.out)
      have c1 : W2.cell? ⟨x.p, 1, none⟩ = some (.slice pb nb cb) := by rw [← HVB.out]; exact HU2.out.vb_
      have HHI := Lib.hid (hit_any (.slice pb nb cb) x.L (by rw [← HNB.out]; omega) HWB.out (fj : Int) W2 (by rw [← HVB.out]; exact HU2.out.base.lies))
      go_wp2_with (go_at_call 46; refine HHI.out.mono ?_; rintro e W3 ⟨gh, Lh, rfl, huh, hch⟩; refine Hid.out ?_)
      have HUH := Lib.hid huh
      have HU3 := Lib.hid (HU2.out.below hch.2.2.1)
      have HKF := Lib.hid (HKE.out.below hch.2.2.1)
      have H53 := Lib.hid (H52.out.below hch.2.2.1)
      have H83 := Lib.hid (H8E.out.below hch.2.2.1)
      have HBF := Lib.hid (HBE.out.trans (hch.2.2.1.mono HBE.out.size))
      have HOH := Lib.hid (show OL B (.slice (some ⟨gh, 0, none⟩) Lh.length Lh.length) Lh W3 from
        ⟨KAt.owns okR hch.1 (by have := hch.2.2.2; have := HBE.out.size; have := HBW.out; omega), fun y hy => (hch.2.1 y hy).mono (by have := hch.2.2.2; have := HBE.out.size; have := HBW.out; omega)⟩)
      have HTH := Lib.hid (show W3.there x.p 1 1 from HU3.out.box.there (by show 2 ≤ 4; decide))
      clear huh hch c1 HHI HU2 HKE H52 H8E HBE
      obtain ⟨lh, hlh⟩ : ∃ lh, lh = Lh.length := ⟨_, rfl⟩
      rw [← hlh] at HOH ⊢
      clear hlh
      refine Lib.hid ?_
      go_wp2_with (refine storeCell rfl 27 _ _ rfl x.p 1 (.slice (some ⟨gh, 0, none⟩) lh lh) rfl rfl rfl HTH.out infoSR ?_; refine Hid.out ?_)
      have HFW := Lib.hid (Fr.cell W3 ⟨x.p, 1, none⟩ (.slice (some ⟨gh, 0, none⟩) lh lh) (M := [x.p]) (by simp))
      have HMW := Lib.hid (show Muts [x.p] W3 from fun g hg => by
        simp only [List.mem_cons, List.not_mem_nil, or_false] at hg
        subst hg
        exact ⟨_, by decide, HU3.out.box.typ⟩)
      have HX := Lib.hid (show UniA B ⟨x.p, x.room, .slice (some ⟨gh, 0, none⟩) lh lh, Lh, x.vo, x.ts, x.fail⟩ (W3.setCell ⟨x.p, 1, none⟩ (.slice (some ⟨gh, 0, none⟩) lh lh)) from
        UniA.wrote (p := x.p) HU3.out.boxU rfl (HU3.out.box.one (k := 1) (.slice (some ⟨gh, 0, none⟩) lh lh)) HFW.out HOH.out HU3.out.opn HU3.out.txs HU3.out.nod)
      have HUF := Lib.hid (show UFr x ⟨x.p, x.room, .slice (some ⟨gh, 0, none⟩) lh lh, Lh, x.vo, x.ts, x.fail⟩ w (W3.setCell ⟨x.p, 1, none⟩ (.slice (some ⟨gh, 0, none⟩) lh lh)) from
        ⟨(Fr.of HBF.out).tr (HFW.out.mono fun g hg => .inl (by
          simp only [List.mem_cons, List.not_mem_nil, or_false] at hg
          subst hg
          simp [Um.muts])), fun g hg => .inl hg⟩)
      have HKG := Lib.hid (HFW.out.ownsT HMW.out HKF.out notS)
      have H54 := Lib.hid (HFW.out.blk H53.out fun hm => by
        simp only [List.mem_cons, List.not_mem_nil, or_false] at hm
        exact HN5.out (by rw [hm]; simp [Um.muts]))
      have H84 := Lib.hid (HFW.out.blk H83.out fun hm => by
        simp only [List.mem_cons, List.not_mem_nil, or_false] at hm
        exact HN8.out (by rw [hm]; simp [Um.muts]))
      clear HTH HFW HMW HU3 HKF H53 H83 HBF HOH
      generalize W3.setCell ⟨x.p, 1, none⟩ (.slice (some ⟨gh, 0, none⟩) lh lh) = W4 at *
      refine Lib.hid ?_
      go_wp2_with fail
      go_meet
      case rel =>
        refine ⟨_, ?_, HX.out, rfl, HUF.out, HKG.out, H54.out, H84.out, HN8.out⟩
        unfold pktS
        rw [if_neg (by rw [HPB.out]; decide), HSM.out]
        show (⟨x.room, Lh.map (·.u), x.ts.map (·.tx), x.fail⟩ : Un) = ⟨x.room, hitL (fj : Int) x.un.base, x.ts.map (·.tx), x.fail⟩
        rw [HUH.out]
        rfl
  case rest =>
  clear HU2 HKE H52 H8E HBE HFJ
  obtain ⟨x', hun, hux, hpx, hfx, hks, h5, h8, hn8⟩ := hcut
  have HUN := Lib.hid hun
  have HUX := Lib.hid hux
  have HPX := Lib.hid hpx
  have HFX := Lib.hid hfx
  have HKS := Lib.hid hks
  have H5 := Lib.hid h5
  have H8 := Lib.hid h8
  have HWS := Lib.hid hfx.fr.size
  clear hun hux hpx hfx hks h5 h8 hn8
  cases tb
  · go_upto_region 16 with fail
    have HDW := Lib.hid (show Below wc.heap.size wc wc.drew from (Below.refl _ _).drew)
    have HUX2 := Lib.hid (HUX.out.below HDW.out)
    have HFX2 := Lib.hid (HFX.out.trans (UFr.of x' HDW.out))
    have HKS2 := Lib.hid (HKS.out.below HDW.out)
    have H8D := Lib.hid (H8.out.below HDW.out)
    refine wp_region_held_drew (S := fun W' => Blk b8 (hpa HP) 60 W') (by kernel_rfl) H8D.out (fun hS => ?_)
    clear HDW HUX HFX HKS H5 H8 H8D
    generalize wc.drew = W at *
    refine seqRead 0 (v := _) rfl (by kernel_rfl) (by kernel_rfl) (by kernel_rfl) (fun _ _ _ h => h) rfl (fun w hSw => by go_simp <;> with_reducible rfl) hS ?_
    try simp only [Act.put, List.setIfInBounds_toArray, List.set_cons_zero, List.set_cons_succ]
    refine seqRead 1 (v := _) rfl (by kernel_rfl) (by kernel_rfl) (by kernel_rfl) (fun _ _ _ h => h) rfl (fun w hSw => by go_simp <;> with_reducible rfl) hS ?_
    try simp only [Act.put, List.setIfInBounds_toArray, List.set_cons_zero, List.set_cons_succ]
    refine seqRead 2 (v := _) rfl (by kernel_rfl) (by kernel_rfl) (by kernel_rfl) (fun _ _ _ h => h) rfl (fun w hSw => (show (execOp _ _).run _ w = .ok (.value (.agg (hpa HP))) w from execRow0 rfl b8 rfl hSw Tryz.underlying60 rfl infoHp)) hS ?_
    try simp only [Act.put, List.setIfInBounds_toArray, List.set_cons_zero, List.set_cons_succ]
    refine seqRead 3 (v := _) rfl (by kernel_rfl) (by kernel_rfl) (by kernel_rfl) (fun _ _ _ h => h) rfl (fun w hSw => by go_simp <;> with_reducible rfl) hS ?_
    try simp only [Act.put, List.setIfInBounds_toArray, List.set_cons_zero, List.set_cons_succ]
    refine seqRead 4 (v := _) rfl (by kernel_rfl) (by kernel_rfl) (by kernel_rfl) (fun _ _ _ h => h) rfl (fun w hSw => by go_simp <;> with_reducible rfl) hS ?_
    try simp only [Act.put, List.setIfInBounds_toArray, List.set_cons_zero, List.set_cons_succ]
    refine seqCall 5 rfl (by kernel_rfl) rfl (fun K hK => ?_)
    refine wp_store_row 60 _ _ rfl b8 (hpa HP) rfl rfl 60 (hpa HP) hS (by kernel_rfl) rfl (hpa_one _) ?_
    rw [setRow_self _ _ _ _ _ hS]
    refine hK.out _ _ hS (fun hS => ?_)
    clear hK K
    try simp only [Act.put]
    refine seqDone (by kernel_rfl) ?_
    go_wp2_with fail
    refine bodyPost_ret (v := .tuple #[u6, .slice none 0 0, .agg (hpa HP)]) ?_ rfl ?_
    · exact res_ttc Tryz.results20 rfl rfl rfl hS Tryz.underlying60 rfl (by rw [hpa_size]; exact infoHp)
    · exact ⟨x', _, _, [], by rw [HHP.out], HKS2.out, by unfold pktA; rw [if_neg (by rw [HPB.out]; decide), ← HTB.out]; rfl, AnsL.nil _ _, HUN.out, HUX2.out, HPX.out, HFX2.out⟩
  · have RG := Lib.hid (Blk.new wc (gca (pkG port hd)) KG.T)
    have HBG := Lib.hid (below1 wc (.cells (gca (pkG port hd)) KG.T))
    go_upto_region 16 with (first
      | (refine wpList_load_row rfl 35 _ rfl b5 rfl 35 (hc hd) (0, 0) _ H5.out Tryz.underlying35 rfl infoHc ?_)
      | (refine buildPk rfl _ _ _ rfl port hd rfl rfl rfl ?_)
      | (refine kbuildOne KG okG #[Value.int IntKind.i64 0, Value.int IntKind.i64 0, Value.int IntKind.i64 0, Value.int IntKind.i64 0, Value.int IntKind.u64 0, Value.int IntKind.u64 0, Value.int IntKind.u64 0, Value.int IntKind.u64 0, Value.int IntKind.u64 0, Value.int IntKind.u64 0, Value.int IntKind.u64 0, Value.int IntKind.u64 0, Value.int IntKind.u64 0, Value.int IntKind.u64 0, Value.int IntKind.u64 0, Value.int IntKind.u64 0, Value.int IntKind.u64 0, Value.int IntKind.u64 0, Value.int IntKind.u64 0, Value.int IntKind.u64 0, Value.int IntKind.u64 0, Value.int IntKind.u64 0, Value.int IntKind.u64 0, Value.int IntKind.u64 0, Value.int IntKind.u64 0, Value.int IntKind.u64 0, Value.int IntKind.u64 0, Value.int IntKind.u64 0, Value.int IntKind.i64 0, Value.slice none 0 0, Value.int IntKind.i64 0, Value.int IntKind.i64 0, Value.int IntKind.i64 0, Value.bool false, Value.int IntKind.i64 0, Value.int IntKind.u64 0, Value.int IntKind.u64 0, Value.int IntKind.u64 0, Value.int IntKind.u64 0, Value.int IntKind.u64 0, Value.int IntKind.u64 0, Value.int IntKind.u64 0, Value.int IntKind.u64 0, Value.int IntKind.u64 0, Value.int IntKind.u64 0, Value.int IntKind.u64 0, Value.int IntKind.u64 0, Value.slice none 0 0] zeroG rfl _ rfl (gca (pkG port hd)) rfl (by decide) (fillG1 _) ?_))
    have HDW := Lib.hid (show Below wc.heap.size wc (wc.alloc (.cells (gca (pkG port hd)) KG.T)).drew from (HBG.out.trans (Below.refl _ _)).drew)
    have HUX2 := Lib.hid (HUX.out.below HDW.out)
    have HFX2 := Lib.hid (HFX.out.trans (UFr.of x' HDW.out))
    have HKS2 := Lib.hid (HKS.out.below HDW.out)
    have H8D := Lib.hid (H8.out.below HDW.out)
    have RG2 := Lib.hid (show Blk wc.heap.size (gca (pkG port hd)) KG.T (wc.alloc (.cells (gca (pkG port hd)) KG.T)).drew from RG.out.drew)
    refine wp_region_held_drew (S := fun W' => Blk b8 (hpa HP) 60 W') (by kernel_rfl) H8D.out (fun hS => ?_)
    clear HDW HUX HFX HKS H5 H8 H8D RG HBG
    generalize (wc.alloc (.cells (gca (pkG port hd)) KG.T)).drew = W at *
    refine seqRead 0 (v := _) rfl (by kernel_rfl) (by kernel_rfl) (by kernel_rfl) (fun _ _ _ h => h) rfl (fun w hSw => by go_simp <;> with_reducible rfl) hS ?_
    try simp only [Act.put, List.setIfInBounds_toArray, List.set_cons_zero, List.set_cons_succ]
    refine seqRead 1 (v := _) rfl (by kernel_rfl) (by kernel_rfl) (by kernel_rfl) (fun _ _ _ h => h) rfl (fun w hSw => by go_simp <;> with_reducible rfl) hS ?_
    try simp only [Act.put, List.setIfInBounds_toArray, List.set_cons_zero, List.set_cons_succ]
    refine seqRead 2 (v := _) rfl (by kernel_rfl) (by kernel_rfl) (by kernel_rfl) (fun _ _ _ h => h) rfl (fun w hSw => (show (execOp _ _).run _ w = .ok (.value (.agg (hpa HP))) w from execRow0 rfl b8 rfl hSw Tryz.underlying60 rfl infoHp)) hS ?_
    try simp only [Act.put, List.setIfInBounds_toArray, List.set_cons_zero, List.set_cons_succ]
    refine seqRead 3 (v := _) rfl (by kernel_rfl) (by kernel_rfl) (by kernel_rfl) (fun _ _ _ h => h) rfl (fun w hSw => by go_simp <;> with_reducible rfl) hS ?_
    try simp only [Act.put, List.setIfInBounds_toArray, List.set_cons_zero, List.set_cons_succ]
    refine seqRead 4 (v := _) rfl (by kernel_rfl) (by kernel_rfl) (by kernel_rfl) (fun _ _ _ h => h) rfl (fun w hSw => by go_simp <;> with_reducible rfl) hS ?_
    try simp only [Act.put, List.setIfInBounds_toArray, List.set_cons_zero, List.set_cons_succ]
    refine seqCall 5 rfl (by kernel_rfl) rfl (fun K hK => ?_)
    refine wp_store_row 60 _ _ rfl b8 (hpa HP) rfl rfl 60 (hpa HP) hS (by kernel_rfl) rfl (hpa_one _) ?_
    rw [setRow_self _ _ _ _ _ hS]
    refine hK.out _ _ hS (fun hS => ?_)
    clear hK K
    try simp only [Act.put]
    refine seqDone (by kernel_rfl) ?_
    go_wp2_with fail
    refine bodyPost_ret (v := .tuple #[u6, .slice (some ⟨wc.heap.size, 0, none⟩) 1 1, .agg (hpa HP)]) ?_ rfl ?_
    · exact res_ttc Tryz.results20 rfl rfl rfl hS Tryz.underlying60 rfl (by rw [hpa_size]; exact infoHp)
    · exact ⟨x', _, _, [pkG port hd], by rw [HHP.out], HKS2.out, by unfold pktA; rw [if_neg (by rw [HPB.out]; decide), ← HTB.out, ← HHD.out]; rfl, AnsL.one (oneG1 RG2.out HWS.out) ⟨zM_own _ _, OL.nil _ _⟩, HUN.out, HUX2.out, HPX.out, HFX2.out⟩
/-- Packet -/
theorem un_pkt (x : Um) (B k : Nat) (hF : FitM k x) (port : Int) (h : Nat → Int) (hh : Wf h) (w : World) (hU : UniA B x w) (ht : Tab w) (hz : 0 < B) :
    Calls Tryz.prog 20 #[.pointer (some ⟨x.p, 0, none⟩), .int .i64 port, .agg (hc h)] w (PktRet x B port h w) := by
  cases hp : portB port
  · exact un_pkt_bad x B port hp h w hU
  · refine un_pkt_ok x B k hF port hp h (fun j => ?_) w hU ht hz
    have hp1 : 1 ≤ port ∧ port ≤ 16 := by unfold portB at hp; simpa using hp
    unfold inH upd
    split
    · omega
    · exact hh j
end Go.Proofs.YtomnpfbebimpkaaGreatDoor
