/-
  The walk of the law ModsTwice.
-/
import Derived.Test.YtghfohglnbenaaaDoorModLaw
namespace Go.Proofs.YtghfohglnbenaaaDoor
open Go.RowKit

set_option maxRecDepth 100000 in
set_option maxHeartbeats 2000000 in
theorem modsTwice_any (v : Value) (l : List Rm) (hw : WfRL l) (hlen : l.length ≤ 140737488355328) (m : Mm) (hm : WfM m.u) (room : Int) (_ : I64 room) (w0 : World) (hl : RLies v l w0) (ha : InM m w0) (ht : Tab w0) (hz : 0 < w0.heap.size) :
    Calls Tryd.prog 6 #[v, .agg (mca m), .int .i64 room] w0 fun e w' => e = .returned (.bool true) ∧ Below w0.heap.size w0 w' := by
  obtain ⟨p, cap, rfl⟩ := hl.1.form
  have HS := Lib.hid (show ApS w0 (.slice p l.length cap) l m (w0.alloc (.cells (mca m) 30)) from ⟨hl.below (below1 _ _), ha.below (below1 _ _), Blk.new _ _ _, (Env.start ht hz).alloc _⟩)
  have HA := Lib.hid (fun (W : World) (hS : Env w0 W) => manswers W hS.tab hS.lt)
  have HW := Lib.hid hw
  have HM := Lib.hid hm
  have k26 := HS.out.2.2.1.cellsM.2.2.2.1
  clear ht hl hw ha hm
  by_cases hn : 50 < l.length
  · have hnI : (50 : Int) < (l.length : Int) := by omega
    go_enter Tryd.func6, Tryd.ntmps6
    go_wp2_with (go_at_call 12; refine (HA.out _ HS.out.2.2.2).mono ?_; rintro e w1 ⟨rfl, hw1⟩)
    go_ret
    exact ⟨rfl, (HS.out.2.2.2.below hw1).kept⟩
  have hnI : ¬ (50 : Int) < (l.length : Int) := by omega
  by_cases hk : 50 < m.n
  · have hkI : (50 : Int) < (m.n : Int) := by omega
    go_enter Tryd.func6, Tryd.ntmps6
    go_wp2_with (go_at_call 12; refine (HA.out _ HS.out.2.2.2).mono ?_; rintro e w1 ⟨rfl, hw1⟩)
    go_ret
    exact ⟨rfl, (HS.out.2.2.2.below hw1).kept⟩
  have hkI : ¬ (50 : Int) < (m.n : Int) := by omega
  have RM := Lib.hid HS.out.2.2.1
  by_cases he : applyE (l.map (·.u)) m.u room = 0
  · have HP := Lib.hid (apply_at _ l (by omega) HW.out m HM.out room _ HS.out.1 HS.out.2.1 HS.out.2.2.2.tab HS.out.2.2.2.lt _ rfl 0 _ he (appV_ok he))
    obtain ⟨t1, t2⟩ := apply_twice he
    have HT1 := Lib.hid t1
    have HT2 := Lib.hid t2
    clear he t1 t2
    go_enter Tryd.func6, Tryd.ntmps6
    go_upto_region 4 with (first
      | (refine wpList_load_row rfl 30 _ rfl w0.heap.size rfl 30 (mca m) (0, 0) _ RM.out Tryd.underlying30 rfl infoM ?_)
      | (go_at_call 13; refine HP.out.mono ?_; rintro e w1 ⟨v1, L1, rfl, hu1, hi1⟩; refine Hid.out ?_))
    have HS1 := Lib.hid (ApS.below hi1.2.2 HS.out)
    have RM1 := Lib.hid HS1.out.2.2.1
    have HI1 := Lib.hid hi1
    have HW1 := Lib.hid (wf_app HW.out HM.out hu1)
    have hlen1 := len_app (n := 50) (by omega) hu1
    have HP1 := Lib.hid (apply_at v1 L1 (by omega) HW1.out m HM.out room w1 hi1.lies HS1.out.2.1 HS1.out.2.2.2.tab HS1.out.2.2.2.lt _ rfl 0 _ (by rw [hu1]; exact HT1.out) (by rw [hu1, appV_ok HT1.out, HT2.out]))
    have HU1 := Lib.hid hu1
    clear hi1 hu1 k26 HS HP RM
    refine Lib.hid ?_
    go_upto_region 7 with (first
      | (refine wpList_load_row rfl 30 _ rfl w0.heap.size rfl 30 (mca m) (0, 0) _ RM1.out Tryd.underlying30 rfl infoM ?_)
      | (go_at_call 13; refine HP1.out.mono ?_; rintro e w2 ⟨v2, L2, rfl, hu2, hi2⟩; refine Hid.out ?_))
    have HS2 := Lib.hid (ApS.below hi2.2.2 HS1.out)
    have HI2 := Lib.hid (And.intro (HI1.out.below hi2.2.2).lies hi2.lies)
    have HU2 := Lib.hid hu2
    clear hi2 hu2 HS1 RM1 HP1 HI1
    refine Lib.hid ?_
    go_upto_region 7 with fail
    go_wp2_with (first
      | (go_at_call 12; refine (HA.out _ HS2.out.2.2.2).mono ?_; rintro e w3 ⟨rfl, hw3⟩; refine Hid.out ?_))
    have HS3 := Lib.hid (ApS.below hw3 HS2.out)
    have HSa := Lib.hid (rsame_eq v1 v2 L1 L2 (by omega) (wf_app HW.out HM.out HU2.out) (by rw [HU1.out, HU2.out]) w3 (HI2.out.1.below hw3) (HI2.out.2.below hw3))
    clear hw3 HS2 HI2
    refine Lib.hid ?_
    go_wp2_with (go_at_call 15; refine HSa.out.mono ?_; rintro e w4 ⟨rfl, hw4⟩)
    go_ret
    exact ⟨rfl, (HS3.out.2.2.2.below hw4).kept⟩
  · have HP := Lib.hid (apply_at _ l (by omega) HW.out m HM.out room _ HS.out.1 HS.out.2.1 HS.out.2.2.2.tab HS.out.2.2.2.lt _ rfl _ _ rfl (appV_no he))
    generalize applyE (l.map (·.u)) m.u room = k at *
    have hed := eq_false0 he
    have hed2 := neq_true he
    go_enter Tryd.func6, Tryd.ntmps6
    go_upto_region 4 with (first
      | (refine wpList_load_row rfl 30 _ rfl w0.heap.size rfl 30 (mca m) (0, 0) _ RM.out Tryd.underlying30 rfl infoM ?_)
      | (go_at_call 13; refine HP.out.mono ?_; rintro e w1 ⟨v1, L1, rfl, hu1, hi1⟩; refine Hid.out ?_))
    have HS1 := Lib.hid (ApS.below hi1.2.2 HS.out)
    clear hi1 hu1 k26 HS HP RM
    refine Lib.hid ?_
    go_wp2_with (go_at_call 12; refine (HA.out _ HS1.out.2.2.2).mono ?_; rintro e w2 ⟨rfl, hw2⟩)
    go_ret
    exact ⟨rfl, (HS1.out.2.2.2.below hw2).kept⟩
end Go.Proofs.YtghfohglnbenaaaDoor
