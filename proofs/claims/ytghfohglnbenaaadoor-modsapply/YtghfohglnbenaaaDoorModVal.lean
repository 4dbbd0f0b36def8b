/-
  Changes in memory: their cells; withoutExtras, fitsKind, ruleOf.
-/
import Derived.Test.YtghfohglnbenaaaDoorModMath
namespace Go.Proofs.YtghfohglnbenaaaDoor
set_option maxRecDepth 20000
open Go.RowKit

/-- a change in memory: where its actions lie, how many, how much room -/
structure Mm where
  u : Mu
  q : Option Addr
  n : Nat
  c : Nat
def mtl (m : Mm) : List Value := [.int .i64 m.u.p, .slice m.q m.n m.c, .int .i64 m.u.idle, .int .i64 m.u.hard, .int .i64 m.u.owner, .bool m.u.chk]
def mcl (m : Mm) : List Value := .int .i64 m.u.kind :: (cl m.u.m ++ mtl m)
def mca (m : Mm) : Array Value := (mcl m).toArray
/-- a change's actions lie in memory -/
def InM (m : Mm) (W : World) : Prop := KLies KA (.slice m.q m.n m.c) m.u.acts W
/-- the rule that a change adds, with the change's actions -/
def newR (m : Mm) : Rm := ⟨newU m.u, m.q, m.n, m.c⟩
section
variable {W W' : World} {m : Mm} {b : Nat} {t : TypeId}
theorem mca_one (m : Mm) : (mca m).all (·.oneCell') = true := by
  rw [Array.all_eq_true']
  intro x hx
  have hx' : x ∈ mcl m := by simpa [mca] using hx
  rcases List.mem_cons.1 hx' with rfl | h
  · rfl
  rcases List.mem_append.1 h with h | h
  · simp only [cl, List.mem_map] at h
    obtain ⟨_, _, rfl⟩ := h
    rfl
  · simp only [mtl, List.mem_cons, List.not_mem_nil, or_false] at h
    rcases h with rfl | rfl | rfl | rfl | rfl | rfl <;> rfl
theorem mca_size (m : Mm) : (mca m).size = 31 := by simp [mca, mcl, mtl, cl]
theorem InM.below (h : InM m W) (hb : Below W.heap.size W W') : InM m W' := KLies.below h okA hb
theorem InM.new (h : InM m W) : InA (newR m) W := h
theorem InM.len (h : InM m W) : m.n = m.u.acts.length := by
  obtain ⟨p, c, e⟩ := KLies.form h
  injection e
theorem i640 : I64 0 := ⟨by decide, by decide⟩
theorem WfM.new {u : Mu} (h : WfM u) : WfR (newU u) := ⟨h.m, h.a, h.room, h.nums.2.1, h.nums.2.2.1, h.nums.2.2.2.1, h.nums.2.2.2.2, i640, i640, i640⟩
theorem mcl_mid (m : Mm) {j : Nat} {x : Value} (h : (cl m.u.m)[j]? = some x) : (mcl m)[1 + j]? = some x := by
  unfold mcl
  rw [Nat.add_comm, List.getElem?_cons_succ, List.getElem?_append_left (List.getElem?_eq_some_iff.1 h).1]
  exact h
theorem mcl_ge (m : Mm) (j : Nat) : (mcl m)[25 + j]? = (mtl m)[j]? := by
  unfold mcl
  rw [show 25 + j = (24 + j) + 1 by omega, List.getElem?_cons_succ, List.getElem?_append_right (by simp [cl])]
  simp [cl]
theorem Blk.rangeM (h : Blk b (mca m) t W) : W.rangeAt b 0 (mcl m) := fun j x hx => by
  rw [Nat.zero_add, cell_of_row W b j _ _ _ h]
  unfold mca
  simpa using hx
/-- the cells of a change that lies at the head of a block -/
theorem Blk.cellsM (h : Blk b (mca m) t W) : W.cell? ⟨b, 0, none⟩ = some (.int .i64 m.u.kind) ∧ W.rangeAt b 1 (cl m.u.m) ∧ W.cell? ⟨b, 25, none⟩ = some (.int .i64 m.u.p) ∧ W.cell? ⟨b, 26, none⟩ = some (.slice m.q m.n m.c) ∧ W.cell? ⟨b, 27, none⟩ = some (.int .i64 m.u.idle) ∧
    W.cell? ⟨b, 28, none⟩ = some (.int .i64 m.u.hard) ∧ W.cell? ⟨b, 29, none⟩ = some (.int .i64 m.u.owner) ∧ W.cell? ⟨b, 30, none⟩ = some (.bool m.u.chk) := by
  have r := h.rangeM
  have e : ∀ k, 0 + k = k := fun k => Nat.zero_add k
  exact ⟨e 0 ▸ r 0 _ rfl, fun j x hx => by have := r (1 + j) x (mcl_mid m hx); rwa [Nat.zero_add] at this, e 25 ▸ r 25 _ (mcl_ge m 0), e 26 ▸ r 26 _ (mcl_ge m 1), e 27 ▸ r 27 _ (mcl_ge m 2), e 28 ▸ r 28 _ (mcl_ge m 3), e 29 ▸ r 29 _ (mcl_ge m 4), e 30 ▸ r 30 _ (mcl_ge m 5)⟩
end
theorem infoM : (Tryd.prog.info? 30).map (·.size) = some 31 := by kernel_rfl
/-- has a change nothing that only an Add may have? -/
def extB (u : Mu) : Bool := (u.idle == 0) && ((u.hard == 0) && !u.chk)
/-- has a change no part that its Kind may not have? -/
def fitK (u : Mu) : Bool := if u.kind = 1 then true else if u.kind = 2 then extB u && (u.p == 0) else if u.kind = 3 then extB u && ((u.p == 0) && decide (u.acts.length = 0)) else if u.kind = 4 then extB u else if u.kind = 5 then extB u && decide (u.acts.length = 0) else false
theorem sndM_split (u : Mu) : sndM u = (fitK u && sndR (newU u)) := by
  have eb : ∀ a : Int, (a == 0) = decide (a = 0) := fun a => by by_cases h : a = 0 <;> simp [h]
  have hz : ∀ y : Bool, (decide ((0 : Int) ≤ 0) && y) = y := fun y => by simp
  unfold sndM fitK extB sndR newU
  simp only [eb]
  generalize csnd u.m = x1
  generalize sndAL u.acts = x2
  generalize upB u.p 65535 = x3
  generalize upB u.owner 255 = x4
  generalize upB u.idle 1048576 = x5
  generalize upB u.hard 1048576 = x6
  generalize decide (u.idle = 0) = y1
  generalize decide (u.hard = 0) = y2
  generalize decide (u.p = 0) = y3
  generalize decide (u.acts.length = 0) = y4
  generalize u.chk = y5
  by_cases h1 : u.kind = 1
  · simp only [h1]; cases x1 <;> cases x2 <;> cases x3 <;> cases x4 <;> cases x5 <;> cases x6 <;> simp
  by_cases h2 : u.kind = 2
  · simp only [h2]; cases x1 <;> cases x2 <;> cases x3 <;> cases x4 <;> cases x5 <;> cases x6 <;> simp
  by_cases h3 : u.kind = 3
  · simp only [h3]; cases x1 <;> cases x2 <;> cases x3 <;> cases x4 <;> cases x5 <;> cases x6 <;> simp [Bool.and_assoc]
  by_cases h4 : u.kind = 4
  · simp only [h4]; cases x1 <;> cases x2 <;> cases x3 <;> cases x4 <;> cases x5 <;> cases x6 <;> simp
  by_cases h5 : u.kind = 5
  · simp only [h5]; cases x1 <;> cases x2 <;> cases x3 <;> cases x4 <;> cases x5 <;> cases x6 <;> simp
  have hn : (decide (1 ≤ u.kind) && decide (u.kind ≤ 5)) = false := by
    rw [Bool.and_eq_false_iff, decide_eq_false_iff_not, decide_eq_false_iff_not]
    omega
  rw [hn, if_neg h1, if_neg h2, if_neg h3, if_neg h4, if_neg h5, Bool.false_and, Bool.false_and]
theorem eq_true0 {a k : Int} (h : a = k) : (a == k) = true := by simpa using h
theorem eq_false0 {a k : Int} (h : a ≠ k) : (a == k) = false := by simpa using h
set_option maxHeartbeats 1000000 in
theorem extras_any (m : Mm) (w : World) : Calls Tryd.prog 63 #[.agg (mca m)] w fun e w' => e = .returned (.bool (extB m.u)) ∧ Below w.heap.size w w' := by
  obtain ⟨_, _, _, _, k27, k28, _, k30⟩ := (Blk.new w (mca m) 30).cellsM
  have HB := Lib.hid (below1 w (.cells (mca m) 30))
  unfold extB
  by_cases h1 : m.u.idle = 0
  · have h1d := eq_true0 h1
    rw [h1d, Bool.true_and]
    by_cases h2 : m.u.hard = 0
    · have h2d := eq_true0 h2
      rw [h2d, Bool.true_and]
      go_enter Tryd.func63, Tryd.ntmps63
      go_wp2
      go_ret
      exact ⟨rfl, HB.out⟩
    · have h2d := eq_false0 h2
      rw [h2d, Bool.false_and]
      go_enter Tryd.func63, Tryd.ntmps63
      go_wp2
      go_ret
      exact ⟨rfl, HB.out⟩
  · have h1d := eq_false0 h1
    rw [h1d, Bool.false_and]
    go_enter Tryd.func63, Tryd.ntmps63
    go_wp2
    go_ret
    exact ⟨rfl, HB.out⟩
/-- the cells of the rule of a change, built -/
theorem builtNew (m : Mm) : Tryd.prog.built 44 [(0, .agg (cc m.u.m)), (1, .int .i64 m.u.p), (2, .slice m.q m.n m.c), (3, .int .i64 m.u.idle), (4, .int .i64 m.u.hard), (5, .int .i64 m.u.owner)] = some (rca (newR m)) := by kernel_rfl
theorem buildNew {ops : Array Oper} {rest : List Oper} {o : Oper} {a : Act} {w : World} {Q : Exit → Act → World → Prop} (hg : o.guard = none) (x0 x1 x2 x3 x4 x5 : Operand) (ho : o.op = .build 44 #[(0, x0), (1, x1), (2, x2), (3, x3), (4, x4), (5, x5)]) (m : Mm)
    (h0 : a.eval x0 = .agg (cc m.u.m)) (h1 : a.eval x1 = .int .i64 m.u.p) (h2 : a.eval x2 = .slice m.q m.n m.c) (h3 : a.eval x3 = .int .i64 m.u.idle) (h4 : a.eval x4 = .int .i64 m.u.hard) (h5 : a.eval x5 = .int .i64 m.u.owner)
    (h : wpList Tryd.prog ops Q rest (a.put o.dst (.agg (rca (newR m)))) w) : wpList Tryd.prog ops Q (o :: rest) a w := by
  have e : ((#[(0, x0), (1, x1), (2, x2), (3, x3), (4, x4), (5, x5)] : Array (Nat × Operand)).map fun (p : Nat × Operand) => (p.1, a.eval p.2)).toList = [(0, .agg (cc m.u.m)), (1, .int .i64 m.u.p), (2, .slice m.q m.n m.c), (3, .int .i64 m.u.idle), (4, .int .i64 m.u.hard), (5, .int .i64 m.u.owner)] := by simp [h0, h1, h2, h3, h4, h5]
  have e' := congrArg (Tryd.prog.built 44) e
  rw [builtNew] at e'
  refine wpList_build hg 44 _ ho (by rw [e']; rfl) ?_
  rw [e']
  exact h
set_option maxHeartbeats 1000000 in
theorem ruleof_any (m : Mm) (w : World) : Calls Tryd.prog 37 #[.agg (mca m)] w fun e w' => e = .returned (.agg (rca (newR m))) ∧ Below w.heap.size w w' := by
  have R0 := Lib.hid ((Blk.new w (mca m) 30).old (.cells #[Value.int IntKind.u64 0, Value.int IntKind.u64 0, Value.int IntKind.u64 0, Value.int IntKind.u64 0, Value.int IntKind.u64 0, Value.int IntKind.u64 0, Value.int IntKind.u64 0, Value.int IntKind.u64 0, Value.int IntKind.u64 0, Value.int IntKind.u64 0, Value.int IntKind.u64 0, Value.int IntKind.u64 0, Value.int IntKind.u64 0, Value.int IntKind.u64 0, Value.int IntKind.u64 0, Value.int IntKind.u64 0, Value.int IntKind.u64 0, Value.int IntKind.u64 0, Value.int IntKind.u64 0, Value.int IntKind.u64 0, Value.int IntKind.u64 0, Value.int IntKind.u64 0, Value.int IntKind.u64 0, Value.int IntKind.u64 0, Value.int IntKind.i64 0, Value.slice none 0 0, Value.int IntKind.i64 0, Value.int IntKind.i64 0, Value.int IntKind.i64 0, Value.int IntKind.i64 0, Value.int IntKind.i64 0, Value.int IntKind.i64 0] 44))
  have R1 := Lib.hid (Blk.new2 w (.cells (mca m) 30) #[Value.int IntKind.u64 0, Value.int IntKind.u64 0, Value.int IntKind.u64 0, Value.int IntKind.u64 0, Value.int IntKind.u64 0, Value.int IntKind.u64 0, Value.int IntKind.u64 0, Value.int IntKind.u64 0, Value.int IntKind.u64 0, Value.int IntKind.u64 0, Value.int IntKind.u64 0, Value.int IntKind.u64 0, Value.int IntKind.u64 0, Value.int IntKind.u64 0, Value.int IntKind.u64 0, Value.int IntKind.u64 0, Value.int IntKind.u64 0, Value.int IntKind.u64 0, Value.int IntKind.u64 0, Value.int IntKind.u64 0, Value.int IntKind.u64 0, Value.int IntKind.u64 0, Value.int IntKind.u64 0, Value.int IntKind.u64 0, Value.int IntKind.i64 0, Value.slice none 0 0, Value.int IntKind.i64 0, Value.int IntKind.i64 0, Value.int IntKind.i64 0, Value.int IntKind.i64 0, Value.int IntKind.i64 0, Value.int IntKind.i64 0] 44)
  have HB := Lib.hid ((below1 w (.cells (mca m) 30)).trans ((below1 (w.alloc (.cells (mca m) 30)) (.cells #[Value.int IntKind.u64 0, Value.int IntKind.u64 0, Value.int IntKind.u64 0, Value.int IntKind.u64 0, Value.int IntKind.u64 0, Value.int IntKind.u64 0, Value.int IntKind.u64 0, Value.int IntKind.u64 0, Value.int IntKind.u64 0, Value.int IntKind.u64 0, Value.int IntKind.u64 0, Value.int IntKind.u64 0, Value.int IntKind.u64 0, Value.int IntKind.u64 0, Value.int IntKind.u64 0, Value.int IntKind.u64 0, Value.int IntKind.u64 0, Value.int IntKind.u64 0, Value.int IntKind.u64 0, Value.int IntKind.u64 0, Value.int IntKind.u64 0, Value.int IntKind.u64 0, Value.int IntKind.u64 0, Value.int IntKind.u64 0, Value.int IntKind.i64 0, Value.slice none 0 0, Value.int IntKind.i64 0, Value.int IntKind.i64 0, Value.int IntKind.i64 0, Value.int IntKind.i64 0, Value.int IntKind.i64 0, Value.int IntKind.i64 0] 44)).mono (below1 w (.cells (mca m) 30)).size))
  have M0 := Lib.hid R0.out.cellsM.2.1
  obtain ⟨_, _, k25, k26, k27, k28, k29, _⟩ := R0.out.cellsM
  go_enter Tryd.func37, Tryd.ntmps37
  go_upto_region 1 with fail
  generalize (w.alloc (.cells (mca m) 30)).alloc (.cells #[Value.int IntKind.u64 0, Value.int IntKind.u64 0, Value.int IntKind.u64 0, Value.int IntKind.u64 0, Value.int IntKind.u64 0, Value.int IntKind.u64 0, Value.int IntKind.u64 0, Value.int IntKind.u64 0, Value.int IntKind.u64 0, Value.int IntKind.u64 0, Value.int IntKind.u64 0, Value.int IntKind.u64 0, Value.int IntKind.u64 0, Value.int IntKind.u64 0, Value.int IntKind.u64 0, Value.int IntKind.u64 0, Value.int IntKind.u64 0, Value.int IntKind.u64 0, Value.int IntKind.u64 0, Value.int IntKind.u64 0, Value.int IntKind.u64 0, Value.int IntKind.u64 0, Value.int IntKind.u64 0, Value.int IntKind.u64 0, Value.int IntKind.i64 0, Value.slice none 0 0, Value.int IntKind.i64 0, Value.int IntKind.i64 0, Value.int IntKind.i64 0, Value.int IntKind.i64 0, Value.int IntKind.i64 0, Value.int IntKind.i64 0] 44) = W at *
  go_wp2_with (first
    | (refine wpList_load_mid rfl 27 _ rfl w.heap.size 1 rfl (cl m.u.m) _ M0.out Tryd.underlying27 rfl infoCube ?_)
    | (refine buildNew rfl _ _ _ _ _ _ rfl m rfl rfl rfl rfl rfl rfl ?_)
    | (refine wpList_store_row rfl 44 _ _ rfl (w.heap.size + 1) (rca (newR m)) rfl rfl 44 _ R1.out (by kernel_rfl) rfl (rca_one _) ?_))
  have HB3 := Lib.hid (below_setRow HB.out (show w.heap.size ≤ w.heap.size + 1 by omega) (rca (newR m)))
  have R4 := Lib.hid (R1.out.rset (rca (newR m)))
  refine bodyPost_ret (v := .agg (rca (newR m))) ?_ rfl ⟨rfl, HB3.out⟩
  exact res_one Tryd.results37 (cs := rca (newR m)) rfl R4.out Tryd.underlying44 rfl (by kernel_rfl)
set_option maxHeartbeats 2000000 in
theorem mfits_any (m : Mm) (hn : m.n = m.u.acts.length) (w : World) : Calls Tryd.prog 35 #[.agg (mca m)] w fun e w' => e = .returned (.bool (fitK m.u)) ∧ Below w.heap.size w w' := by
  have R0 := Lib.hid (Blk.new w (mca m) 30)
  have k0 := R0.out.cellsM.1
  have HB := Lib.hid (below1 w (.cells (mca m) 30))
  have HX := Lib.hid (extras_any m (w.alloc (.cells (mca m) 30)))
  unfold fitK
  rw [← hn]
  clear hn
  by_cases h1 : m.u.kind = 1
  · rw [if_pos h1]
    have h1d := eq_true0 h1
    go_enter Tryd.func35, Tryd.ntmps35
    go_wp2
    go_ret
    exact ⟨rfl, HB.out⟩
  rw [if_neg h1]
  have h1d := eq_false0 h1
  by_cases h2 : m.u.kind = 2
  · rw [if_pos h2]
    have h2d := eq_true0 h2
    cases hx : extB m.u
    · rw [hx] at HX
      go_enter Tryd.func35, Tryd.ntmps35
      go_wp2_with (first
        | (refine wpList_load_row rfl 30 _ rfl w.heap.size rfl 30 (mca m) (0, 0) _ R0.out Tryd.underlying30 rfl infoM ?_)
        | (go_at_call 63; refine HX.out.mono ?_; rintro e w1 ⟨rfl, hw1⟩))
      go_ret
      exact ⟨rfl, HB.out.trans (hw1.mono HB.out.size)⟩
    · rw [hx] at HX
      go_enter Tryd.func35, Tryd.ntmps35
      go_wp2_with (first
        | (refine wpList_load_row rfl 30 _ rfl w.heap.size rfl 30 (mca m) (0, 0) _ R0.out Tryd.underlying30 rfl infoM ?_)
        | (go_at_call 63; refine HX.out.mono ?_; rintro e w1 ⟨rfl, hw1⟩; refine Hid.out ?_))
      have R1 := Lib.hid (R0.out.below hw1)
      have HB1 := Lib.hid (HB.out.trans (hw1.mono HB.out.size))
      clear hw1 HX R0 HB k0
      obtain ⟨_, _, k25, k26, _⟩ := R1.out.cellsM
      refine Lib.hid ?_
      by_cases hp : m.u.p = 0
      · have hpd := eq_true0 hp
        go_wp2
        go_ret
        exact ⟨ret_bool (by simp [hp]), HB1.out⟩
      · have hpd := eq_false0 hp
        go_wp2
        go_ret
        exact ⟨ret_bool (by simp [hp]), HB1.out⟩
  rw [if_neg h2]
  have h2d := eq_false0 h2
  by_cases h3 : m.u.kind = 3
  · rw [if_pos h3]
    have h3d := eq_true0 h3
    cases hx : extB m.u
    · rw [hx] at HX
      go_enter Tryd.func35, Tryd.ntmps35
      go_wp2_with (first
        | (refine wpList_load_row rfl 30 _ rfl w.heap.size rfl 30 (mca m) (0, 0) _ R0.out Tryd.underlying30 rfl infoM ?_)
        | (go_at_call 63; refine HX.out.mono ?_; rintro e w1 ⟨rfl, hw1⟩))
      go_ret
      exact ⟨rfl, HB.out.trans (hw1.mono HB.out.size)⟩
    · rw [hx] at HX
      go_enter Tryd.func35, Tryd.ntmps35
      go_wp2_with (first
        | (refine wpList_load_row rfl 30 _ rfl w.heap.size rfl 30 (mca m) (0, 0) _ R0.out Tryd.underlying30 rfl infoM ?_)
        | (go_at_call 63; refine HX.out.mono ?_; rintro e w1 ⟨rfl, hw1⟩; refine Hid.out ?_))
      have R1 := Lib.hid (R0.out.below hw1)
      have HB1 := Lib.hid (HB.out.trans (hw1.mono HB.out.size))
      clear hw1 HX R0 HB k0
      obtain ⟨_, _, k25, k26, _⟩ := R1.out.cellsM
      refine Lib.hid ?_
      by_cases hp : m.u.p = 0
      · have hpd := eq_true0 hp
        by_cases hl : m.n = 0
        · have hld : (((m.n : Nat) : Int) == 0) = true := by simpa using hl
          go_wp2
          go_ret
          exact ⟨ret_bool (by first | (simp [hp, hl]; done) | (simp [hl]; done)), HB1.out⟩
        · have hld : (((m.n : Nat) : Int) == 0) = false := by simpa using hl
          go_wp2
          go_ret
          exact ⟨ret_bool (by first | (simp [hp, hl]; done) | (simp [hl]; done)), HB1.out⟩
      · have hpd := eq_false0 hp
        go_wp2
        go_ret
        exact ⟨ret_bool (by simp [hp]), HB1.out⟩
  rw [if_neg h3]
  have h3d := eq_false0 h3
  by_cases h4 : m.u.kind = 4
  · rw [if_pos h4]
    have h4d := eq_true0 h4
    cases hx : extB m.u
    · rw [hx] at HX
      go_enter Tryd.func35, Tryd.ntmps35
      go_wp2_with (first
        | (refine wpList_load_row rfl 30 _ rfl w.heap.size rfl 30 (mca m) (0, 0) _ R0.out Tryd.underlying30 rfl infoM ?_)
        | (go_at_call 63; refine HX.out.mono ?_; rintro e w1 ⟨rfl, hw1⟩))
      go_ret
      exact ⟨rfl, HB.out.trans (hw1.mono HB.out.size)⟩
    · rw [hx] at HX
      go_enter Tryd.func35, Tryd.ntmps35
      go_wp2_with (first
        | (refine wpList_load_row rfl 30 _ rfl w.heap.size rfl 30 (mca m) (0, 0) _ R0.out Tryd.underlying30 rfl infoM ?_)
        | (go_at_call 63; refine HX.out.mono ?_; rintro e w1 ⟨rfl, hw1⟩))
      go_ret
      exact ⟨rfl, HB.out.trans (hw1.mono HB.out.size)⟩
  rw [if_neg h4]
  have h4d := eq_false0 h4
  by_cases h5 : m.u.kind = 5
  · rw [if_pos h5]
    have h5d := eq_true0 h5
    cases hx : extB m.u
    · rw [hx] at HX
      go_enter Tryd.func35, Tryd.ntmps35
      go_wp2_with (first
        | (refine wpList_load_row rfl 30 _ rfl w.heap.size rfl 30 (mca m) (0, 0) _ R0.out Tryd.underlying30 rfl infoM ?_)
        | (go_at_call 63; refine HX.out.mono ?_; rintro e w1 ⟨rfl, hw1⟩))
      go_ret
      exact ⟨rfl, HB.out.trans (hw1.mono HB.out.size)⟩
    · rw [hx] at HX
      go_enter Tryd.func35, Tryd.ntmps35
      go_wp2_with (first
        | (refine wpList_load_row rfl 30 _ rfl w.heap.size rfl 30 (mca m) (0, 0) _ R0.out Tryd.underlying30 rfl infoM ?_)
        | (go_at_call 63; refine HX.out.mono ?_; rintro e w1 ⟨rfl, hw1⟩; refine Hid.out ?_))
      have R1 := Lib.hid (R0.out.below hw1)
      have HB1 := Lib.hid (HB.out.trans (hw1.mono HB.out.size))
      clear hw1 HX R0 HB k0
      obtain ⟨_, _, k25, k26, _⟩ := R1.out.cellsM
      refine Lib.hid ?_
      by_cases hl : m.n = 0
      · have hld : (((m.n : Nat) : Int) == 0) = true := by simpa using hl
        go_wp2
        go_ret
        exact ⟨ret_bool (by first | (simp [hp, hl]; done) | (simp [hl]; done)), HB1.out⟩
      · have hld : (((m.n : Nat) : Int) == 0) = false := by simpa using hl
        go_wp2
        go_ret
        exact ⟨ret_bool (by first | (simp [hp, hl]; done) | (simp [hl]; done)), HB1.out⟩
  rw [if_neg h5]
  have h5d := eq_false0 h5
  go_enter Tryd.func35, Tryd.ntmps35
  go_wp2
  go_ret
  exact ⟨rfl, HB.out⟩
end Go.Proofs.YtghfohglnbenaaaDoor
