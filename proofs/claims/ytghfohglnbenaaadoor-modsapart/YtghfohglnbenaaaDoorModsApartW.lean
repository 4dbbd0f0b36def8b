/-
  The walk of the law ModsApart.
-/
import Derived.Test.YtghfohglnbenaaaDoorModTwo
namespace Go.Proofs.YtghfohglnbenaaaDoor
open Go.RowKit

set_option maxRecDepth 100000 in
set_option maxHeartbeats 4000000 in
theorem modsApart_any (v : Value) (l : List Rm) (hw : WfRL l) (hlen : l.length ≤ 140737488355328) (m : Mm) (hm : WfM m.u) (n : Mm) (hn : WfM n.u) (w0 : World) (hl : RLies v l w0) (ha : InM m w0) (hb : InM n w0) (ht : Tab w0) (hz : 0 < w0.heap.size) :
    Calls Tryd.prog 7 #[v, .agg (mca m), .agg (mca n)] w0 fun e w' => e = .returned (.bool true) ∧ Below w0.heap.size w0 w' := by
  obtain ⟨p, cap, rfl⟩ := hl.1.form
  have HS := Lib.hid (A2S.start hl ha hb ht hz)
  have HA := Lib.hid (fun (W : World) (hS : Env w0 W) => manswers W hS.tab hS.lt)
  have HMe := Lib.hid (fun W => rmeet_any m.u.m n.u.m hm.m hn.m W)
  have HW := Lib.hid hw
  have HM := Lib.hid hm
  have HN := Lib.hid hn
  have MA := Lib.hid HS.out.2.2.1.1.cellsM.2.1
  have MB := Lib.hid HS.out.2.2.1.2.cellsM.2.1
  obtain ⟨mb, hmb⟩ : ∃ mb, mb = metB m.u.m n.u.m := ⟨_, rfl⟩
  rw [← hmb] at HMe
  have HMB := Lib.hid hmb
  clear ht hl hw ha hb hm hn hmb
  go_enter Tryd.func7, Tryd.ntmps7
  go_upto_region 1 with fail
  generalize (w0.alloc (.cells (mca m) 30)).alloc (.cells (mca n) 30) = W0 at *
  go_upto_region 2 with (first
    | (refine wpList_load_mid rfl 27 (.tmp 18) rfl w0.heap.size 1 rfl (cl m.u.m) _ MA.out Tryd.underlying27 rfl infoCube ?_)
    | (refine wpList_load_mid rfl 27 (.tmp 20) rfl (w0.heap.size + 1) 1 rfl (cl n.u.m) _ MB.out Tryd.underlying27 rfl infoCube ?_)
    | (go_at_call 23; refine (HMe.out _).mono ?_; rintro e w1 ⟨rfl, hw1⟩)
    | (refine wpList_store_row rfl 27 _ _ rfl w1.heap.size (cc (metV m.u.m n.u.m)) rfl rfl 27 _ (heap_alloc_new _ _) (by kernel_rfl) rfl (cc_one _) ?_; rw [World.setRow_alloc_new]))
  have HS1 := Lib.hid (A2S.below (hw1.trans ((below1 w1 (.cells (cc (metV m.u.m n.u.m)) 27)).mono hw1.size)) HS.out)
  clear hw1 HS MA MB HMe
  generalize w1.alloc (.cells (cc (metV m.u.m n.u.m)) 27) = W1 at *
  have ka := HS1.out.2.2.1.1.cellsM.2.2.2.1
  have kb := HS1.out.2.2.1.2.cellsM.2.2.2.1
  by_cases hn : 40 < l.length
  · have hnI : (40 : Int) < (l.length : Int) := by omega
    go_wp2_with (go_at_call 12; refine (HA.out _ HS1.out.2.2.2).mono ?_; rintro e w9 ⟨rfl, hw9⟩)
    go_ret
    exact ⟨rfl, (HS1.out.2.2.2.below hw9).kept⟩
  have hnI : ¬ (40 : Int) < (l.length : Int) := by omega
  cases mb
  rotate_left
  · skip
    go_wp2_with (go_at_call 12; refine (HA.out _ HS1.out.2.2.2).mono ?_; rintro e w9 ⟨rfl, hw9⟩)
    go_ret
    exact ⟨rfl, (HS1.out.2.2.2.below hw9).kept⟩
  by_cases hk : 20 < m.n
  · have hkI : (20 : Int) < (m.n : Int) := by omega
    go_wp2_with (go_at_call 12; refine (HA.out _ HS1.out.2.2.2).mono ?_; rintro e w9 ⟨rfl, hw9⟩)
    go_ret
    exact ⟨rfl, (HS1.out.2.2.2.below hw9).kept⟩
  have hkI : ¬ (20 : Int) < (m.n : Int) := by omega
  by_cases hq : 20 < n.n
  · have hqI : (20 : Int) < (n.n : Int) := by omega
    go_wp2_with (go_at_call 12; refine (HA.out _ HS1.out.2.2.2).mono ?_; rintro e w9 ⟨rfl, hw9⟩)
    go_ret
    exact ⟨rfl, (HS1.out.2.2.2.below hw9).kept⟩
  have hqI : ¬ (20 : Int) < (n.n : Int) := by omega
  have HP1 := Lib.hid (apply_at _ l (by omega) HW.out m HM.out 1000 _ HS1.out.1 HS1.out.2.1.1 HS1.out.2.2.2.tab HS1.out.2.2.2.lt _ rfl _ _ rfl rfl)
  obtain ⟨E1, hE1⟩ : ∃ E1, E1 = applyE (l.map (·.u)) m.u 1000 := ⟨_, rfl⟩
  obtain ⟨E2, hE2⟩ : ∃ E2, E2 = applyE (l.map (·.u)) n.u 1000 := ⟨_, rfl⟩
  rw [← hE1] at HP1
  have HE1 := Lib.hid hE1
  have HE2 := Lib.hid hE2
  clear hE1 hE2
  go_upto_region 5 with (first
    | (refine wpList_load_row rfl 30 (.tmp 4) rfl w0.heap.size rfl 30 (mca m) (0, 0) _ HS1.out.2.2.1.1 Tryd.underlying30 rfl infoM ?_)
    | (go_at_call 13; refine HP1.out.mono ?_; rintro e w2 ⟨v1, L1, rfl, hu1, hi1⟩; refine Hid.out ?_))
  have HS2 := Lib.hid (A2S.below hi1.2.2 HS1.out)
  have HI1 := Lib.hid hi1.lies
  have HU1 := Lib.hid hu1
  clear HS1 HP1 ka kb hi1 hu1
  have HP2 := Lib.hid (apply_at _ l (by omega) HW.out n HN.out 1000 _ HS2.out.1 HS2.out.2.1.2 HS2.out.2.2.2.tab HS2.out.2.2.2.lt _ rfl _ _ rfl rfl)
  rw [← HE2.out] at HP2
  refine Lib.hid ?_
  go_upto_region 6 with (first
    | (refine wpList_load_row rfl 30 (.tmp 5) rfl (w0.heap.size + 1) rfl 30 (mca n) (0, 0) _ HS2.out.2.2.1.2 Tryd.underlying30 rfl infoM ?_)
    | (go_at_call 13; refine HP2.out.mono ?_; rintro e w3 ⟨v2, L2, rfl, hu2, hi2⟩; refine Hid.out ?_))
  have HS3 := Lib.hid (A2S.below hi2.2.2 HS2.out)
  have HI3 := Lib.hid (And.intro (HI1.out.below hi2.2.2) hi2.lies)
  have HU2 := Lib.hid hu2
  clear HS2 HP2 HI1 hi2 hu2
  refine Lib.hid ?_
  by_cases h1 : E1 = 0
  rotate_left
  · have h1n := neT h1
    go_wp2_with (go_at_call 12; refine (HA.out _ HS3.out.2.2.2).mono ?_; rintro e w9 ⟨rfl, hw9⟩)
    go_ret
    exact ⟨rfl, (HS3.out.2.2.2.below hw9).kept⟩
  by_cases h2 : E2 = 0
  rotate_left
  · have h2n := neT h2
    go_wp2_with (go_at_call 12; refine (HA.out _ HS3.out.2.2.2).mono ?_; rintro e w9 ⟨rfl, hw9⟩)
    go_ret
    exact ⟨rfl, (HS3.out.2.2.2.below hw9).kept⟩
  have e1 := HE1.out.symm.trans h1
  have e2 := HE2.out.symm.trans h2
  obtain ⟨a1, a2, a3⟩ := apart_all e1 e2 (by rw [List.length_map]; omega) (WfUL.of HW.out) HM.out.m HN.out.m HMB.out.symm
  have hu1 := HU1.out
  have hu2 := HU2.out
  rw [appV_ok e1] at hu1
  rw [appV_ok e2] at hu2
  have HW1 := Lib.hid (wf_app HW.out HM.out hu1)
  have HW2 := Lib.hid (wf_app HW.out HN.out hu2)
  have hl1 := len_app (n := 40) (by omega) hu1
  have hl2 := len_app (n := 40) (by omega) hu2
  have HP3 := Lib.hid (apply_at v1 L1 (by omega) HW1.out n HN.out 1000 _ HI3.out.1 HS3.out.2.1.2 HS3.out.2.2.2.tab HS3.out.2.2.2.lt _ rfl 0 (applyL (applyL (l.map (·.u)) m.u) n.u) (by rw [hu1]; exact a1) (by rw [hu1, appV_ok a1]))
  have HUU := Lib.hid (And.intro hu2 (And.intro a2 a3))
  clear hu1 hu2 a1 a2 a3 e1 e2 HU1 HU2 HE1 HE2
  go_upto_region 9 with (first
    | (refine wpList_load_row rfl 30 (.tmp 5) rfl (w0.heap.size + 1) rfl 30 (mca n) (0, 0) _ HS3.out.2.2.1.2 Tryd.underlying30 rfl infoM ?_)
    | (go_at_call 13; refine HP3.out.mono ?_; rintro e w4 ⟨v3, L3, rfl, hu3, hi3⟩; refine Hid.out ?_))
  have HS4 := Lib.hid (A2S.below hi3.2.2 HS3.out)
  have HI4 := Lib.hid (And.intro (HI3.out.2.below hi3.2.2) hi3.lies)
  have HU3 := Lib.hid hu3
  have hl3 : L3.length ≤ 42 := by
    have := (apply_len (applyL (l.map (·.u)) m.u) n.u).1
    have := (apply_len (l.map (·.u)) m.u).1
    rw [len_map hu3]
    simp only [List.length_map] at this
    omega
  clear HS3 HP3 HI3 hi3 hu3
  have HP4 := Lib.hid (apply_at v2 L2 (by omega) HW2.out m HM.out 1000 _ HI4.out.1 HS4.out.2.1.1 HS4.out.2.2.2.tab HS4.out.2.2.2.lt _ rfl 0 (applyL (applyL (l.map (·.u)) m.u) n.u) (by rw [HUU.out.1]; exact HUU.out.2.1) (by rw [HUU.out.1, appV_ok HUU.out.2.1]; exact HUU.out.2.2.symm))
  refine Lib.hid ?_
  go_upto_region 10 with (first
    | (refine wpList_load_row rfl 30 (.tmp 4) rfl w0.heap.size rfl 30 (mca m) (0, 0) _ HS4.out.2.2.1.1 Tryd.underlying30 rfl infoM ?_)
    | (go_at_call 13; refine HP4.out.mono ?_; rintro e w5 ⟨v4, L4, rfl, hu4, hi4⟩; refine Hid.out ?_))
  have HS5 := Lib.hid (A2S.below hi4.2.2 HS4.out)
  have HI5 := Lib.hid (And.intro (HI4.out.2.below hi4.2.2) hi4.lies)
  have HW4 := Lib.hid (show WfRL L4 from (wf_apply (wf_apply (WfUL.of HW.out) HM.out) HN.out).rl hu4)
  have HU4 := Lib.hid (HU3.out.trans hu4.symm)
  clear HS4 HP4 HI4 hi4 hu4 HUU
  refine Lib.hid ?_
  go_wp2_with (go_at_call 12; refine (HA.out _ HS5.out.2.2.2).mono ?_; rintro e w6 ⟨rfl, hw6⟩; refine Hid.out ?_)
  have HS6 := Lib.hid (A2S.below hw6 HS5.out)
  have HSa := Lib.hid (rsame_eq v3 v4 L3 L4 (by omega) HW4.out HU4.out w6 (HI5.out.1.below hw6) (HI5.out.2.below hw6))
  clear hw6 HS5 HI5
  refine Lib.hid ?_
  go_wp2_with (go_at_call 15; refine HSa.out.mono ?_; rintro e w7 ⟨rfl, hw7⟩)
  go_ret
  exact ⟨rfl, (HS6.out.2.2.2.below hw7).kept⟩
end Go.Proofs.YtghfohglnbenaaaDoor
