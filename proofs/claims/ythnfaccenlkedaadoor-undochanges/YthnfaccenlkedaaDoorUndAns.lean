/-
  The walk of the law's own look: a program that does nothing does not answer.
-/
import Derived.Test.YthnfaccenlkedaaDoorUndInv
namespace Go.Proofs.YthnfaccenlkedaaDoor
set_option maxRecDepth 20000
open Go.RowKit

def azU : Mu := ⟨1, fun _ => 0, 0, [], 0, 0, 0, false⟩
def az : Mm := ⟨azU, none, 0, 0⟩
theorem sndAz : sndM azU = true := by decide
theorem appEz : applyE [] azU 5 = 0 := by unfold applyE; rw [tab0, sndAz]; rfl
theorem appLz : applyL [] azU = [newU azU] := by unfold applyL; rw [if_pos (show azU.kind = 1 from rfl), add_ins tab0 sndAz]; rfl
theorem appVz : applyV [] azU 5 = [newU azU] := by unfold applyV; rw [if_pos appEz, appLz]
theorem tabZ : tabU [newU azU] = true := by have := apply_tab appEz; rwa [appLz] at this
theorem invGz : invG [] azU 5 = [] := by
  unfold invG
  rw [if_pos appEz, appLz]
  unfold difG
  rw [tab0, tabZ]
  rfl
theorem invNz : invN [] azU 5 = [newU azU] := by
  unfold invN
  rw [if_pos appEz, appLz]
  unfold difG
  rw [tab0, tabZ]
  exact alone_nil _
theorem canZ : CanL [newU azU] := fun u hu => by
  simp only [List.mem_cons, List.not_mem_nil, or_false] at hu
  subst hu
  exact fun _ _ => rfl
theorem swapZ : swapE [newU azU] [newU azU] [] = 0 ∧ swapV [newU azU] [newU azU] [] = [] := by
  have h := diff_swap (A := [newU azU]) (B := []) tabZ tab0 canZ (fun u hu => by cases hu)
  rw [alone_nil, nil_alone] at h
  refine ⟨h.1, ?_⟩
  unfold swapV
  rw [if_pos h.1]
  exact h.2
theorem wfAz : WfM azU := ⟨fun j => (⟨by decide, by decide⟩ : (0 : Int) ≤ 0 ∧ (0 : Int) < 18446744073709551616), fun a ha => (by cases ha), (by decide : 0 * 32 ≤ 140737488355328), i64c 1 (by decide), i640, i640, i640, i640⟩
theorem builtAz : Tryd.prog.built 44 [(0, .int .i64 1)] = some (mca az) := by kernel_rfl
theorem buildAz {ops : Array Oper} {rest : List Oper} {o : Oper} {a : Act} {w : World} {Q : Exit → Act → World → Prop} (hg : o.guard = none) (x : Operand) (ho : o.op = .build 44 #[(0, x)])
    (hx : a.eval x = .int .i64 1)
    (k : wpList Tryd.prog ops Q rest (a.put o.dst (.agg (mca az))) w) : wpList Tryd.prog ops Q (o :: rest) a w := by
  have e : ((#[(0, x)] : Array (Nat × Operand)).map fun (p : Nat × Operand) => (p.1, a.eval p.2)).toList = [(0, .int .i64 1)] := by simp [hx]
  have e' := congrArg (Tryd.prog.built 44) e
  rw [builtAz] at e'
  refine wpList_build hg 44 _ ho (by rw [e']; rfl) ?_
  rw [e']
  exact k
/-- a rule that a change made, alone -/
theorem wf_one {L : List Rm} (h : L.map (·.u) = [newU azU]) : WfRL L := fun r hr => by
  have : r.u ∈ [newU azU] := by rw [← h]; exact List.mem_map_of_mem hr
  simp only [List.mem_cons, List.not_mem_nil, or_false] at this
  rw [this]
  exact wf_new wfAz
theorem wf_nil {L : List Rm} (h : L.map (·.u) = []) : WfRL L := fun r hr => by
  obtain rfl : L = [] := by simpa using h
  cases hr
/-- Inverse with its answers named -/
def InvR (w : World) (k : Int) (us gs cs : List Ru) (e : Ending) (w' : World) : Prop := ∃ v L x1 L1 x2 L2, e = .returned (.tuple #[v, .agg #[x1, x2], .int .i64 k]) ∧ L.map (·.u) = us ∧ L1.map (·.u) = gs ∧ L2.map (·.u) = cs ∧ InS w v L w' ∧ InS w x1 L1 w' ∧ InS w x2 L2 w'
theorem inverse_at (v : Value) (l : List Rm) (hlen : l.length ≤ 9000) (hwl : WfRL l) (m : Mm) (hw : WfM m.u) (room : Int) (w : World) (hl : RLies v l w) (ha : InM m w) (ht : Tab w) (hz : 0 < w.heap.size)
    (us : List Ru) (hus : l.map (·.u) = us) (k : Int) (us' gs cs : List Ru) (hk : applyE us m.u room = k) (hv : applyV us m.u room = us') (h1 : invG us m.u room = gs) (h2 : invN us m.u room = cs) : Calls Tryd.prog 16 #[v, .agg (mca m), .int .i64 room] w (InvR w k us' gs cs) := by
  subst hus hk hv h1 h2
  exact inverse_any v l hlen hwl m hw room w hl ha ht hz
/-- Back and Forth with their answers named -/
def SwR (w : World) (k : Int) (us : List Ru) (e : Ending) (w' : World) : Prop := ∃ v L, e = .returned (.tuple #[v, .int .i64 k]) ∧ L.map (·.u) = us ∧ InS w v L w'
theorem SwpRet.at_ {w w' : World} {us gs cs : List Ru} {e : Ending} {k : Int} {ks : List Ru} (hk : swapE us gs cs = k) (hv : swapV us gs cs = ks) (h : SwpRet w us gs cs e w') : SwR w k ks e w' := by
  subst hk hv
  exact h
set_option maxRecDepth 100000 in
set_option maxHeartbeats 2000000 in
theorem uanswers (w : World) (ht : Tab w) (hz : 0 < w.heap.size) :
    Calls Tryd.prog 8 #[] w fun e w' => e = .returned (.bool true) ∧ Below w.heap.size w w' := by
  have HE := Lib.hid (Env.start ht hz)
  have HA := Lib.hid (inverse_at (.slice none 0 0) [] (by decide) (fun r hr => (by cases hr)) az wfAz 5 w (rlies_nil _) (.inl ⟨rfl, rfl⟩) ht hz [] rfl 0 _ _ _ appEz appVz invGz invNz)
  clear ht
  go_enter Tryd.func8, Tryd.ntmps8
  go_wp2_with (first
    | (refine buildAz rfl _ rfl rfl ?_)
    | (go_at_call 16; refine HA.out.mono ?_; rintro e w1 ⟨v, L, x1, L1, x2, L2, rfl, hu, hu1, hu2, hi, hi1, hi2⟩; refine Hid.out ?_))
  obtain ⟨q1, d1, rfl⟩ := hi1.1.form
  obtain ⟨q2, d2, rfl⟩ := hi2.1.form
  obtain ⟨p, cap, rfl⟩ := hi.1.form
  have hLl : L.length = 1 := by have := congrArg List.length hu; simpa using this
  have hL1l : L1.length = 0 := by have := congrArg List.length hu1; simpa using this
  have hL2l : L2.length = 1 := by have := congrArg List.length hu2; simpa using this
  have RP := Lib.hid (Blk.new w1 #[.slice q1 L1.length d1, .slice q2 L2.length d2] 25)
  have HB1 := Lib.hid (below1 w1 (.cells #[.slice q1 L1.length d1, .slice q2 L2.length d2] 25))
  have HE1 := Lib.hid ((HE.out.below hi.2.2).below HB1.out)
  have HK := Lib.hid (back_any (.slice p L.length cap) (.slice q1 L1.length d1) (.slice q2 L2.length d2) L L1 L2 (by omega) (by omega) (by omega) (wf_one hu) (wf_nil hu1) (wf_one hu2) _ (hi.lies.below HB1.out) (hi1.lies.below HB1.out) (hi2.lies.below HB1.out) HE1.out.tab HE1.out.lt)
  rw [hu, hu1, hu2] at HK
  have HKK := Lib.hid (HK.out.mono fun e w' h => SwpRet.at_ swapZ.1 swapZ.2 h)
  have HLl := Lib.hid hLl
  have HL2l := Lib.hid hL2l
  clear hu hu1 hu2 hi hi1 hi2 HA HK HE hLl hL1l hL2l
  refine Lib.hid ?_
  go_upto_region 2 with (refine wpList_store_row rfl 25 _ _ rfl w1.heap.size #[.slice q1 L1.length d1, .slice q2 L2.length d2] rfl rfl 25 _ (heap_alloc_new _ _) (by kernel_rfl) rfl (by simp [Value.oneCell']) ?_; rw [World.setRow_alloc_new])
  generalize w1.alloc (.cells #[.slice q1 L1.length d1, .slice q2 L2.length d2] 25) = W at *
  go_wp2_with (first
    | (refine wpList_load_row rfl 25 _ rfl w1.heap.size rfl 25 #[.slice q1 L1.length d1, .slice q2 L2.length d2] (0, 0) _ RP.out Tryd.underlying25 rfl infoP ?_)
    | (go_at_call 12; refine HKK.out.mono ?_; rintro e w2 ⟨v2, K2, rfl, hu2, hi2⟩; refine Hid.out ?_))
  obtain rfl : K2 = [] := by simpa using hu2
  obtain ⟨p2, cap2, rfl⟩ := hi2.1.form
  have k1 : w2.cell? ⟨w1.heap.size, 1, none⟩ = some (.slice q2 L2.length d2) := (cell_of_row _ w1.heap.size 1 _ _ _ (RP.out.below hi2.2.2)).trans rfl
  have HE2 := Lib.hid (HE1.out.below hi2.2.2)
  clear hi2 hu2 HKK HE1 RP HB1
  have e1 : ((L.length : Int) == 1) = true := by rw [HLl.out]; rfl
  have e2 : ((L2.length : Int) == 1) = true := by rw [HL2l.out]; rfl
  clear HLl HL2l
  refine Lib.hid ?_
  go_wp2_with fail
  go_ret
  exact ⟨rfl, HE2.out.kept⟩
end Go.Proofs.YthnfaccenlkedaaDoor
