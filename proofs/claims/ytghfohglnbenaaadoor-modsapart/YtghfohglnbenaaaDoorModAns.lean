/-
  The walk of the law's own look: a program that does nothing does not answer.
-/
import Derived.Test.YtghfohglnbenaaaDoorModApp
namespace Go.Proofs.YtghfohglnbenaaaDoor
open Go.RowKit

def a1U : Mu := ⟨1, fun _ => 0, 7, [], 0, 0, 1, false⟩
def a1 : Mm := ⟨a1U, none, 0, 0⟩
def a3U : Mu := ⟨3, fun _ => 0, 0, [], 0, 0, 1, false⟩
def a3 : Mm := ⟨a3U, none, 0, 0⟩
theorem sndA1 : sndM a1U = true := by decide
theorem sndA3 : sndM a3U = true := by decide
theorem tab0 : tabU [] = true := rfl
theorem appE1 : applyE [] a1U 1 = 0 := by unfold applyE; rw [tab0, sndA1]; rfl
theorem appL1 : applyL [] a1U = [newU a1U] := by unfold applyL; rw [if_pos (show a1U.kind = 1 from rfl), add_ins tab0 sndA1]; rfl
theorem appV1 : applyV [] a1U 1 = [newU a1U] := by unfold applyV; rw [if_pos appE1, appL1]
theorem tab1 : tabU [newU a1U] = true := by have := apply_tab appE1; rwa [appL1] at this
theorem appE3 : applyE [newU a1U] a3U 0 = 0 := applyE_other tab1 sndA3 (by decide)
theorem tch31 : tchB a3U (newU a1U) = true := by decide
theorem appV3 : applyV [newU a1U] a3U 0 = [] := by
  unfold applyV
  rw [if_pos appE3]
  unfold applyL
  rw [if_neg (by decide), if_neg (by decide)]
  simp [tch31]
theorem i64c (n : Int) (h : -1000 ≤ n ∧ n ≤ 1000) : I64 n := ⟨by omega, by omega⟩
theorem wfA1 : WfM a1U := ⟨fun j => (⟨by decide, by decide⟩ : (0 : Int) ≤ 0 ∧ (0 : Int) < 18446744073709551616), fun a ha => (by cases ha), (by decide : 0 * 32 ≤ 140737488355328), i64c 1 (by decide), i64c 7 (by decide), i640, i640, i64c 1 (by decide)⟩
theorem wfA3 : WfM a3U := ⟨fun j => (⟨by decide, by decide⟩ : (0 : Int) ≤ 0 ∧ (0 : Int) < 18446744073709551616), fun a ha => (by cases ha), (by decide : 0 * 32 ≤ 140737488355328), i64c 3 (by decide), i640, i640, i640, i64c 1 (by decide)⟩
theorem builtA1 : Tryd.prog.built 30 [(0, .int .i64 1), (2, .int .i64 7), (6, .int .i64 1)] = some (mca a1) := by kernel_rfl
theorem builtA3 : Tryd.prog.built 30 [(0, .int .i64 3), (6, .int .i64 1)] = some (mca a3) := by kernel_rfl
theorem buildA1 {ops : Array Oper} {rest : List Oper} {o : Oper} {a : Act} {w : World} {Q : Exit → Act → World → Prop} (hg : o.guard = none) (x y z : Operand) (ho : o.op = .build 30 #[(0, x), (2, y), (6, z)])
    (hx : a.eval x = .int .i64 1) (hy : a.eval y = .int .i64 7) (hz : a.eval z = .int .i64 1)
    (k : wpList Tryd.prog ops Q rest (a.put o.dst (.agg (mca a1))) w) : wpList Tryd.prog ops Q (o :: rest) a w := by
  have e : ((#[(0, x), (2, y), (6, z)] : Array (Nat × Operand)).map fun (p : Nat × Operand) => (p.1, a.eval p.2)).toList = [(0, .int .i64 1), (2, .int .i64 7), (6, .int .i64 1)] := by simp [hx, hy, hz]
  have e' := congrArg (Tryd.prog.built 30) e
  rw [builtA1] at e'
  refine wpList_build hg 30 _ ho (by rw [e']; rfl) ?_
  rw [e']
  exact k
theorem buildA3 {ops : Array Oper} {rest : List Oper} {o : Oper} {a : Act} {w : World} {Q : Exit → Act → World → Prop} (hg : o.guard = none) (x z : Operand) (ho : o.op = .build 30 #[(0, x), (6, z)])
    (hx : a.eval x = .int .i64 3) (hz : a.eval z = .int .i64 1)
    (k : wpList Tryd.prog ops Q rest (a.put o.dst (.agg (mca a3))) w) : wpList Tryd.prog ops Q (o :: rest) a w := by
  have e : ((#[(0, x), (6, z)] : Array (Nat × Operand)).map fun (p : Nat × Operand) => (p.1, a.eval p.2)).toList = [(0, .int .i64 3), (6, .int .i64 1)] := by simp [hx, hz]
  have e' := congrArg (Tryd.prog.built 30) e
  rw [builtA3] at e'
  refine wpList_build hg 30 _ ho (by rw [e']; rfl) ?_
  rw [e']
  exact k
/-- what Apply gives: an answer and a list of one's own -/
def ApR (w : World) (k : Int) (us : List Ru) (e : Ending) (w' : World) : Prop := ∃ v L, e = .returned (.tuple #[v, .int .i64 k]) ∧ L.map (·.u) = us ∧ InS w v L w'
theorem apply_at (v : Value) (l : List Rm) (hlen : l.length ≤ 50000) (hwl : WfRL l) (m : Mm) (hw : WfM m.u) (room : Int) (w : World) (hl : RLies v l w) (ha : InM m w) (ht : Tab w) (hz : 0 < w.heap.size)
    (us : List Ru) (hus : l.map (·.u) = us) (k : Int) (us' : List Ru) (hk : applyE us m.u room = k) (hv : applyV us m.u room = us') : Calls Tryd.prog 13 #[v, .agg (mca m), .int .i64 room] w (ApR w k us') := by
  subst hus hk hv
  exact apply_any v l hlen hwl m hw room w hl ha ht hz
theorem one_of {L : List Rm} {a : Ru} (h : L.map (·.u) = [a]) : ∃ y, L = [y] ∧ y.u = a := by
  match L, h with
  | [y], h =>
    simp only [List.map_cons, List.map_nil, List.cons.injEq, and_true] at h
    exact ⟨y, rfl, h⟩
theorem rlies_nil (W : World) : RLies (.slice none 0 0) [] W := ⟨.inl ⟨rfl, rfl⟩, fun r hr => (by cases hr)⟩
theorem a1_in (W : World) : InM a1 W := .inl ⟨rfl, rfl⟩
theorem a3_in (W : World) : InM a3 W := .inl ⟨rfl, rfl⟩
set_option maxRecDepth 100000 in
set_option maxHeartbeats 2000000 in
theorem manswers (w : World) (ht : Tab w) (hz : 0 < w.heap.size) :
    Calls Tryd.prog 12 #[] w fun e w' => e = .returned (.bool true) ∧ Below w.heap.size w w' := by
  have HE := Lib.hid ((Env.start ht hz).alloc (.cells (mca a1) 30))
  have RM := Lib.hid (Blk.new w (mca a1) 30)
  have HA := Lib.hid (apply_at (.slice none 0 0) [] (by decide) (fun r hr => (by cases hr)) a1 wfA1 1 _ (rlies_nil _) (a1_in _) HE.out.tab HE.out.lt [] rfl 0 _ appE1 appV1)
  clear ht
  go_enter Tryd.func12, Tryd.ntmps12
  go_upto_region 2 with (first
    | (refine buildA1 rfl _ _ _ rfl rfl rfl rfl ?_)
    | (refine wpList_store_row rfl 30 _ _ rfl w.heap.size (mca a1) rfl rfl 30 _ (heap_alloc_new _ _) (by kernel_rfl) rfl (mca_one _) ?_; rw [World.setRow_alloc_new]))
  generalize w.alloc (.cells (mca a1) 30) = W at *
  go_wp2_with (first
    | (refine wpList_load_row rfl 30 _ rfl w.heap.size rfl 30 (mca a1) (0, 0) _ RM.out Tryd.underlying30 rfl infoM ?_)
    | (go_at_call 13; refine HA.out.mono ?_; rintro e w1 ⟨v, L, rfl, hu, hi⟩; refine Hid.out ?_))
  obtain ⟨⟨_, q, n, c⟩, rfl, rfl⟩ := one_of hu
  obtain ⟨p, cap, rfl⟩ := hi.1.lies okR |>.form
  obtain ⟨b, o, rfl, hrg⟩ := (hi.lies.1).at (i := 0) rfl
  have hE1 := HE.out.below hi.2.2
  have HA3 := Lib.hid (apply_at _ _ (by show 1 ≤ 50000; decide) (fun r hr => by
    simp only [List.mem_cons, List.not_mem_nil, or_false] at hr
    subst hr
    exact wf_new wfA1) a3 wfA3 0 w1 hi.lies (a3_in _) hE1.tab hE1.lt [newU a1U] rfl 0 _ appE3 appV3)
  have HI := Lib.hid hi
  have RM1 := Lib.hid (RM.out.below hi.2.2)
  have HE1 := Lib.hid hE1
  clear hrg hi hu hE1 HE RM HA
  refine Lib.hid ?_
  go_wp2_with (first
    | (refine buildA3 rfl _ _ rfl rfl rfl ?_)
    | (go_at_call 13; refine HA3.out.mono ?_; rintro e w2 ⟨v, L, rfl, hu, hi⟩; refine Hid.out ?_))
  obtain rfl : L = [] := by simpa using hu
  obtain ⟨p3, cap3, rfl⟩ := hi.1.lies okR |>.form
  have HI2 := Lib.hid (HI.out.below hi.2.2)
  have HE2 := Lib.hid (HE1.out.below hi.2.2)
  have RM2 := Lib.hid (RM1.out.below hi.2.2)
  have hk : w2.cell? ⟨b, o + 24, none⟩ = some (.int .i64 7) := by
    have := (cellsR_mid (HI2.out.lies.1.at' (i := 0) rfl)).p
    simp only [Nat.zero_mul, Nat.add_zero] at this
    exact this
  have HSo := Lib.hid (msound_any a1 wfA1 w2 (a1_in _) HE2.out.tab HE2.out.lt)
  rw [show sndM a1.u = true from sndA1] at HSo
  clear hi hu HI HA3 HE1 RM1
  refine Lib.hid ?_
  go_wp2_with (first
    | (refine loadRowG rfl 30 _ rfl w.heap.size rfl 30 (mca a1) (0, 0) RM2.out Tryd.underlying30 rfl infoM ?_)
    | (go_at_call 16; refine HSo.out.mono ?_; rintro e w3 ⟨rfl, hw3⟩))
  go_ret
  exact ⟨rfl, (HE2.out.below hw3).kept⟩
end Go.Proofs.YtghfohglnbenaaaDoor
