/-
  The walk of the law UndoAny.
-/
import Derived.Test.YthnfaccenlkedaaDoorUndLaw
namespace Go.Proofs.YthnfaccenlkedaaDoor
open Go.RowKit

/-- the three lists, what Forth, Back and the reference gave -/
def AnS (w0 : World) (v1 : Value) (L1 : List Rm) (v2 : Value) (L2 : List Rm) (v3 : Value) (L3 : List Rm) (W : World) : Prop := RLies v1 L1 W ∧ RLies v2 L2 W ∧ RLies v3 L3 W ∧ Env w0 W
theorem AnS.below {w0 : World} {v1 v2 v3 : Value} {L1 L2 L3 : List Rm} {W W' : World} (hb : Below W.heap.size W W') (h : AnS w0 v1 L1 v2 L2 v3 L3 W) : AnS w0 v1 L1 v2 L2 v3 L3 W' := ⟨h.1.below hb, h.2.1.below hb, h.2.2.1.below hb, h.2.2.2.below hb⟩
set_option maxRecDepth 100000 in
set_option maxHeartbeats 4000000 in
theorem undoAny_any (v : Value) (l : List Rm) (hwl : WfRL l) (hlen : l.length ≤ 140737488355328) (vg : Value) (g : List Rm) (hwg : WfRL g) (hgen : g.length ≤ 140737488355328) (vc : Value) (c : List Rm) (hwc : WfRL c) (hcen : c.length ≤ 140737488355328)
    (w0 : World) (hl : RLies v l w0) (hg : RLies vg g w0) (hc : RLies vc c w0) (ht : Tab w0) (hz : 0 < w0.heap.size) :
    Calls Tryd.prog 4 #[v, vg, vc] w0 fun e w' => e = .returned (.bool true) ∧ Below w0.heap.size w0 w' := by
  obtain ⟨p, cap, rfl⟩ := hl.1.form
  obtain ⟨pg, capg, rfl⟩ := hg.1.form
  obtain ⟨pc, capc, rfl⟩ := hc.1.form
  have HE := Lib.hid (Env.start ht hz)
  have HA := Lib.hid (fun (W : World) (hS : Env w0 W) => uanswers W hS.tab hS.lt)
  have HL := Lib.hid hl
  have HG := Lib.hid hg
  have HC := Lib.hid hc
  have HWL := Lib.hid hwl
  have HWG := Lib.hid hwg
  have HWC := Lib.hid hwc
  clear ht hl hg hc hwl hwg hwc
  by_cases hn : 40 < l.length
  · have hnI : (40 : Int) < (l.length : Int) := by omega
    go_enter Tryd.func4, Tryd.ntmps4
    go_wp2_with (go_at_call 8; refine (HA.out _ HE.out).mono ?_; rintro e w1 ⟨rfl, hw1⟩)
    go_ret
    exact ⟨rfl, (HE.out.below hw1).kept⟩
  have hnI : ¬ (40 : Int) < (l.length : Int) := by omega
  by_cases hn2 : 40 < g.length
  · have hgI : (40 : Int) < (g.length : Int) := by omega
    go_enter Tryd.func4, Tryd.ntmps4
    go_wp2_with (go_at_call 8; refine (HA.out _ HE.out).mono ?_; rintro e w1 ⟨rfl, hw1⟩)
    go_ret
    exact ⟨rfl, (HE.out.below hw1).kept⟩
  have hgI : ¬ (40 : Int) < (g.length : Int) := by omega
  by_cases hn3 : 40 < c.length
  · have hcI : (40 : Int) < (c.length : Int) := by omega
    go_enter Tryd.func4, Tryd.ntmps4
    go_wp2_with (go_at_call 8; refine (HA.out _ HE.out).mono ?_; rintro e w1 ⟨rfl, hw1⟩)
    go_ret
    exact ⟨rfl, (HE.out.below hw1).kept⟩
  have hcI : ¬ (40 : Int) < (c.length : Int) := by omega
  obtain ⟨us, hus⟩ : ∃ us, us = l.map (·.u) := ⟨_, rfl⟩
  obtain ⟨gs, hgs⟩ : ∃ gs, gs = g.map (·.u) := ⟨_, rfl⟩
  obtain ⟨cs, hcs⟩ : ∃ cs, cs = c.map (·.u) := ⟨_, rfl⟩
  obtain ⟨k, hk⟩ : ∃ k, k = swapE us gs cs := ⟨_, rfl⟩
  obtain ⟨ks, hks⟩ : ∃ ks, ks = swapV us gs cs := ⟨_, rfl⟩
  have HF := Lib.hid ((forth_any (.slice p l.length cap) (.slice pg g.length capg) (.slice pc c.length capc) l g c (by omega) (by omega) (by omega) HWL.out HWG.out HWC.out w0 HL.out HG.out HC.out HE.out.tab HE.out.lt).mono fun e w' h =>
    SwR.of hk hks (by rw [hus, hgs, hcs]; exact h))
  have HB := Lib.hid (fun (W : World) (hS : Env w0 W) => (back_any (.slice p l.length cap) (.slice pc c.length capc) (.slice pg g.length capg) l c g (by omega) (by omega) (by omega) HWL.out HWC.out HWG.out W (HL.out.below hS.kept) (HC.out.below hS.kept) (HG.out.below hS.kept) hS.tab hS.lt).mono fun e w' h =>
    SwR.of hk hks (by rw [hus, hgs, hcs]; exact h))
  have HR := Lib.hid (fun (W : World) (hS : Env w0 W) => rswap_any (.slice p l.length cap) (.slice pg g.length capg) (.slice pc c.length capc) l g c (by omega) (by omega) (by omega) HWL.out HWG.out HWC.out W (HL.out.below hS.kept) (HG.out.below hS.kept) (HC.out.below hS.kept) hS.tab hS.lt)
  unfold RswRet at HR
  rw [← hus, ← hgs, ← hcs] at HR
  rw [← hk, ← hks] at HR
  have HKL := Lib.hid (show ∀ L : List Rm, L.map (·.u) = ks → L.length ≤ 1000000 ∧ WfRL L from fun L hL => by
    rw [hks] at hL
    have e := congrArg List.length hL
    rw [List.length_map] at e
    have n1 := congrArg List.length hus
    have n2 := congrArg List.length hcs
    rw [List.length_map] at n1 n2
    unfold swapV at hL e
    split at hL
    · rename_i h0
      rw [if_pos h0] at e
      have := swap_len us gs cs
      refine ⟨by omega, WfUL.rl (swap_wf ?_ ?_) hL⟩
      · rw [hus]; exact WfUL.of HWL.out
      · rw [hcs]; exact WfUL.of HWC.out
    · rename_i h0
      exact ⟨by rw [map_nil hL]; exact Nat.zero_le _, WfUL.rl (fun u hu => (by cases hu)) hL⟩)
  clear hus hgs hcs hk hks hn hn2 hn3
  go_enter Tryd.func4, Tryd.ntmps4
  go_wp2_with (first
    | (refine buildP rfl _ _ rfl pg pc g.length c.length capg capc rfl rfl ?_)
    | (go_at_call 11; refine HF.out.mono ?_; rintro e w1 ⟨v1, L1, rfl, hu1, hi1⟩; refine Hid.out ?_))
  have HE1 := Lib.hid (HE.out.below hi1.2.2)
  have HR1 := Lib.hid hi1.lies
  have HU1 := Lib.hid hu1
  have HB1 := Lib.hid (HB.out w1 HE1.out)
  obtain ⟨p1, c1, rfl⟩ := hi1.1.form
  clear hu1 hi1 HF HB
  refine Lib.hid ?_
  go_wp2_with (first
    | (refine buildP rfl _ _ rfl pc pg c.length g.length capc capg rfl rfl ?_)
    | (go_at_call 12; refine HB1.out.mono ?_; rintro e w2 ⟨v2, L2, rfl, hu2, hi2⟩; refine Hid.out ?_))
  have HE2 := Lib.hid (HE1.out.below hi2.2.2)
  have HR2 := Lib.hid hi2.lies
  have HR12 := Lib.hid (HR1.out.below hi2.2.2)
  have HU2 := Lib.hid hu2
  have HR3 := Lib.hid (HR.out w2 HE2.out)
  obtain ⟨p2, c2, rfl⟩ := hi2.1.form
  clear hu2 hi2 HB1 HR HE1 HR1
  refine Lib.hid ?_
  go_wp2_with (go_at_call 15; refine HR3.out.mono ?_; rintro e w3 ⟨v3, L3, rfl, hu3, hr3, hw3⟩; refine Hid.out ?_)
  have HS3 := Lib.hid (show AnS w0 (.slice p1 L1.length c1) L1 (.slice p2 L2.length c2) L2 v3 L3 w3 from ⟨HR12.out.below hw3, HR2.out.below hw3, hr3, HE2.out.below hw3⟩)
  have HU3 := Lib.hid hu3
  obtain ⟨p3, c3, rfl⟩ := hr3.1.form
  have HA3 := Lib.hid (HA.out w3 HS3.out.2.2.2)
  have hkk : (k == k) = true := by simp
  clear hu3 hr3 hw3 HR3 HE2 HR2 HR12 HA
  refine Lib.hid ?_
  go_wp2_with (go_at_call 8; refine HA3.out.mono ?_; rintro e w4 ⟨rfl, hw4⟩; refine Hid.out ?_)
  have HS4 := Lib.hid (AnS.below hw4 HS3.out)
  have HC4 := Lib.hid (rsame_eq _ _ L1 L3 (HKL.out L1 HU1.out).1 (HKL.out L3 HU3.out).2 (HU1.out.trans HU3.out.symm) w4 HS4.out.1 HS4.out.2.2.1)
  clear hw4 HA3 HS3
  refine Lib.hid ?_
  go_wp2_with (go_at_call 13; refine HC4.out.mono ?_; rintro e w5 ⟨rfl, hw5⟩; refine Hid.out ?_)
  have HS5 := Lib.hid (AnS.below hw5 HS4.out)
  have HC5 := Lib.hid (rsame_eq _ _ L2 L3 (HKL.out L2 HU2.out).1 (HKL.out L3 HU3.out).2 (HU2.out.trans HU3.out.symm) w5 HS5.out.2.1 HS5.out.2.2.1)
  clear hw5 HC4 HS4
  refine Lib.hid ?_
  go_wp2_with (go_at_call 13; refine HC5.out.mono ?_; rintro e w6 ⟨rfl, hw6⟩)
  go_ret
  exact ⟨rfl, (HS5.out.2.2.2.below hw6).kept⟩
end Go.Proofs.YthnfaccenlkedaaDoor
