/-
  The walk of the law's own look: a program that does nothing does not answer.
-/
import Derived.Test.YthalpnmejompdaaDoorRuleSrt
import Derived.Test.YthalpnmejompdaaDoorRuleFnd
import Derived.Test.YthalpnmejompdaaDoorRuleTab
namespace Go.Proofs.YthalpnmejompdaaDoor
open Go.RowKit

/-- the rule that has a Prio alone -/
def prU (p : Int) : Ru := ⟨fun _ => 0, p, [], 0, 0, 0, 0, 0, 0⟩
def prM (p : Int) : Rm := ⟨prU p, none, 0, 0⟩
theorem builtPr (p : Int) : Tryd.prog.built 29 [(1, .int .i64 p)] = some (rca (prM p)) := by kernel_rfl
theorem buildPr {ops : Array Oper} {rest : List Oper} {o : Oper} {a : Act} {w : World} {Q : Exit → Act → World → Prop} (hg : o.guard = none) (x : Operand) (ho : o.op = .build 29 #[(1, x)]) (p : Int) (hx : a.eval x = .int .i64 p)
    (k : wpList Tryd.prog ops Q rest (a.put o.dst (.agg (rca (prM p)))) w) : wpList Tryd.prog ops Q (o :: rest) a w := by
  have e : ((#[(1, x)] : Array (Nat × Operand)).map fun (p : Nat × Operand) => (p.1, a.eval p.2)).toList = [(1, .int .i64 p)] := by simp [hx]
  have e' := congrArg (Tryd.prog.built 29) e
  rw [builtPr] at e'
  refine wpList_build hg 29 _ ho (by rw [e']; rfl) ?_
  rw [e']
  exact k
def prL : List Rm := [prM 1, prM 2]
def prA : Array Value := (KR.flat prL).toArray
theorem fillPr : Instr.fill (fun i' => some (i' * 32, 32)) ((Array.range (2 * 32)).map ((#[Value.int IntKind.u64 0, Value.int IntKind.u64 0, Value.int IntKind.u64 0, Value.int IntKind.u64 0, Value.int IntKind.u64 0, Value.int IntKind.u64 0, Value.int IntKind.u64 0, Value.int IntKind.u64 0, Value.int IntKind.u64 0, Value.int IntKind.u64 0, Value.int IntKind.u64 0, Value.int IntKind.u64 0, Value.int IntKind.u64 0, Value.int IntKind.u64 0, Value.int IntKind.u64 0, Value.int IntKind.u64 0, Value.int IntKind.u64 0, Value.int IntKind.u64 0, Value.int IntKind.u64 0, Value.int IntKind.u64 0, Value.int IntKind.u64 0, Value.int IntKind.u64 0, Value.int IntKind.u64 0, Value.int IntKind.u64 0, Value.int IntKind.i64 0, Value.slice none 0 0, Value.int IntKind.i64 0, Value.int IntKind.i64 0, Value.int IntKind.i64 0, Value.int IntKind.i64 0, Value.int IntKind.i64 0, Value.int IntKind.i64 0] : Array Value)[· % (#[Value.int IntKind.u64 0, Value.int IntKind.u64 0, Value.int IntKind.u64 0, Value.int IntKind.u64 0, Value.int IntKind.u64 0, Value.int IntKind.u64 0, Value.int IntKind.u64 0, Value.int IntKind.u64 0, Value.int IntKind.u64 0, Value.int IntKind.u64 0, Value.int IntKind.u64 0, Value.int IntKind.u64 0, Value.int IntKind.u64 0, Value.int IntKind.u64 0, Value.int IntKind.u64 0, Value.int IntKind.u64 0, Value.int IntKind.u64 0, Value.int IntKind.u64 0, Value.int IntKind.u64 0, Value.int IntKind.u64 0, Value.int IntKind.u64 0, Value.int IntKind.u64 0, Value.int IntKind.u64 0, Value.int IntKind.u64 0, Value.int IntKind.i64 0, Value.slice none 0 0, Value.int IntKind.i64 0, Value.int IntKind.i64 0, Value.int IntKind.i64 0, Value.int IntKind.i64 0, Value.int IntKind.i64 0, Value.int IntKind.i64 0] : Array Value).size]!)) [(0, .agg (rca (prM 1))), (1, .agg (rca (prM 2)))] = some prA := by kernel_rfl
theorem snd1 : sndR (prU 1) = true := by decide
theorem snd2 : sndR (prU 2) = true := by decide
theorem ord12 : rOrd (prU 1) (prU 2) = 1 := by decide
theorem tblPr : tblOf [prU 1, prU 2] = [prU 2, prU 1] := by
  unfold tblOf
  rw [show [prU 1, prU 2].filter sndR = [prU 1, prU 2] by simp [snd1, snd2]]
  show insAll rOrd [] [prU 1, prU 2] = _
  simp [insAll, ins, ord12]
theorem wfPr (p : Int) : WfR (prU p) := ⟨fun j => (⟨by decide, by decide⟩ : (0 : Int) ≤ 0 ∧ (0 : Int) < 18446744073709551616), fun a ha => (by cases ha), (by decide : 0 * 32 ≤ 140737488355328)⟩
theorem hasPr (p : Int) : hasB (prU p).m zh = true := by
  show hasB (fun _ => 0) zh = true
  decide
theorem pr_lies {W : World} {b : Nat} (h : Blk b prA 29 W) : RLies (.slice (some ⟨b, 0, none⟩) 2 2) prL W :=
  ⟨Blk.klies (l := prL) h okR rfl, fun r hr => by
    simp only [prL, List.mem_cons, List.not_mem_nil, or_false] at hr
    rcases hr with rfl | rfl <;> exact .inl ⟨rfl, rfl⟩⟩
theorem prL_wf : WfRL prL := fun r hr => by
  simp only [prL, List.mem_cons, List.not_mem_nil, or_false] at hr
  rcases hr with rfl | rfl <;> exact wfPr _
theorem two_of {L : List Rm} {a b : Ru} (h : L.map (·.u) = [a, b]) : ∃ y z, L = [y, z] ∧ y.u = a ∧ z.u = b := by
  match L, h with
  | [y, z], h =>
    simp only [List.map_cons, List.map_nil, List.cons.injEq, and_true] at h
    exact ⟨y, z, rfl, h.1, h.2⟩
set_option maxRecDepth 100000 in
set_option maxHeartbeats 1000000 in
theorem ranswers (w : World) (ht : Tab w) (hz : 0 < w.heap.size) :
    Calls Tryd.prog 10 #[] w fun e w' => e = .returned (.bool true) ∧ Below w.heap.size w w' := by
  have hE := (Env.start ht hz).alloc (.cells prA KR.T)
  have HR := Lib.hid (rsort_any (.slice (some ⟨w.heap.size, 0, none⟩) 2 2) prL (by decide) prL_wf _ (pr_lies (Blk.new w prA KR.T)) hE.tab hE.lt)
  have et : tblOf (prL.map (·.u)) = [prU 2, prU 1] := tblPr
  rw [et] at HR
  have HE := Lib.hid hE
  clear ht hE et
  go_enter Tryd.func10, Tryd.ntmps10
  go_wp2_with (first
    | (refine buildPr rfl _ rfl 1 rfl ?_)
    | (refine buildPr rfl _ rfl 2 rfl ?_)
    | (refine kbuild KR okR 2 #[Value.int IntKind.u64 0, Value.int IntKind.u64 0, Value.int IntKind.u64 0, Value.int IntKind.u64 0, Value.int IntKind.u64 0, Value.int IntKind.u64 0, Value.int IntKind.u64 0, Value.int IntKind.u64 0, Value.int IntKind.u64 0, Value.int IntKind.u64 0, Value.int IntKind.u64 0, Value.int IntKind.u64 0, Value.int IntKind.u64 0, Value.int IntKind.u64 0, Value.int IntKind.u64 0, Value.int IntKind.u64 0, Value.int IntKind.u64 0, Value.int IntKind.u64 0, Value.int IntKind.u64 0, Value.int IntKind.u64 0, Value.int IntKind.u64 0, Value.int IntKind.u64 0, Value.int IntKind.u64 0, Value.int IntKind.u64 0, Value.int IntKind.i64 0, Value.slice none 0 0, Value.int IntKind.i64 0, Value.int IntKind.i64 0, Value.int IntKind.i64 0, Value.int IntKind.i64 0, Value.int IntKind.i64 0, Value.int IntKind.i64 0] zeroR rfl _ rfl [(0, .agg (rca (prM 1))), (1, .agg (rca (prM 2)))] rfl prA (by decide) (by decide) fillPr ?_)
    | (go_at_call 19; refine HR.out.mono ?_; rintro e w1 ⟨g, L, rfl, hu, hc⟩; refine Hid.out ?_))
  obtain ⟨⟨_, q, n, c⟩, z, rfl, rfl, hz2⟩ := two_of hu
  have HE1 := Lib.hid (HE.out.below hc.2.2.1)
  have HL := Lib.hid (show RLies (.slice (some ⟨g, 0, none⟩) 2 2) [⟨prU 2, q, n, c⟩, z] w1 from hc.lies)
  have hwf : WfRL [⟨prU 2, q, n, c⟩, z] := fun r hr => by
    simp only [List.mem_cons, List.not_mem_nil, or_false] at hr
    rcases hr with rfl | rfl
    · exact wfPr 2
    · rw [hz2]; exact wfPr 1
  have HF := Lib.hid (find_any (.slice (some ⟨g, 0, none⟩) 2 2) [⟨prU 2, q, n, c⟩, z] zh (show 2 ≤ 100000 by decide) hwf (fun j => (⟨by decide, by decide⟩ : (0 : Int) ≤ 0 ∧ (0 : Int) < 18446744073709551616)) w1 HL.out HE1.out.tab HE1.out.lt)
  have ef : fndV zh [⟨prU 2, q, n, c⟩, z] = .tuple #[.int .i64 0, .bool true] := by
    have := fndV_some (h := zh) (l := [⟨prU 2, q, n, c⟩, z]) (r := 0) (fnd_hit (x := ⟨prU 2, q, n, c⟩) rfl (hasPr 2) (fun j _ hj => absurd hj (Nat.not_lt_zero _)))
    injection this with this
    exact this.symm
  rw [ef] at HF
  clear hc hu HR HE hwf ef hz2
  refine Lib.hid ?_
  go_wp2_with (go_at_call 26; refine HF.out.mono ?_; rintro e w2 ⟨rfl, hw2⟩; refine Hid.out ?_)
  have HE2 := Lib.hid (HE1.out.below hw2)
  have HL2 := Lib.hid (HL.out.below hw2)
  have hrg := HL2.out.1.at' (i := 0) (a := ⟨prU 2, q, n, c⟩) rfl
  have HRG := Lib.hid (show w2.rangeAt g 0 (rcl ⟨prU 2, q, n, c⟩) from hrg)
  have hk : w2.cell? ⟨g, 24, none⟩ = some (.int .i64 2) := (cellsR_mid HRG.out).p
  have HSo := Lib.hid (rsound_any ⟨prU 2, q, n, c⟩ (wfPr 2) w2 (HL2.out.acts (i := 0) rfl) HE2.out.tab HE2.out.lt)
  rw [snd2] at HSo
  clear hw2 hrg HF HL HE1
  refine Lib.hid ?_
  go_wp2_with (first
    | (refine loadMidG rfl 29 _ rfl g 0 rfl (rcl ⟨prU 2, q, n, c⟩) _ HRG.out Tryd.underlying29 rfl infoR ?_)
    | (go_at_call 11; refine HSo.out.mono ?_; rintro e w3 ⟨rfl, hw3⟩))
  go_ret
  exact ⟨rfl, (HE2.out.below hw3).kept⟩
end Go.Proofs.YthalpnmejompdaaDoor
