/-
  The walk of the law ModsTouch.
-/
import Derived.Test.YtghfohglnbenaaaDoorModRTou
namespace Go.Proofs.YtghfohglnbenaaaDoor
open Go.RowKit

set_option maxRecDepth 100000 in
set_option maxHeartbeats 2000000 in
theorem modsTouch_any (v : Value) (l : List Rm) (hw : WfRL l) (hlen : l.length ≤ 140737488355328) (m : Mm) (hm : WfM m.u) (w0 : World) (hl : RLies v l w0) (ha : InM m w0) (ht : Tab w0) (hz : 0 < w0.heap.size) :
    Calls Tryd.prog 4 #[v, .agg (mca m)] w0 fun e w' => e = .returned (.bool true) ∧ Below w0.heap.size w0 w' := by
  obtain ⟨p, cap, rfl⟩ := hl.1.form
  have HS := Lib.hid (show ApS w0 (.slice p l.length cap) l m (w0.alloc (.cells (mca m) 30)) from ⟨hl.below (below1 _ _), ha.below (below1 _ _), Blk.new _ _ _, (Env.start ht hz).alloc _⟩)
  have HA := Lib.hid (fun (W : World) (hS : Env w0 W) => manswers W hS.tab hS.lt)
  have HW := Lib.hid hw
  have HM := Lib.hid hm
  have k26 := HS.out.2.2.1.cellsM.2.2.2.1
  clear ht hl hw ha hm
  by_cases hn : 50 < l.length
  · have hnI : (50 : Int) < (l.length : Int) := by omega
    go_enter Tryd.func4, Tryd.ntmps4
    go_wp2_with (go_at_call 12; refine (HA.out _ HS.out.2.2.2).mono ?_; rintro e w1 ⟨rfl, hw1⟩)
    go_ret
    exact ⟨rfl, (HS.out.2.2.2.below hw1).kept⟩
  have hnI : ¬ (50 : Int) < (l.length : Int) := by omega
  by_cases hk : 50 < m.n
  · have hkI : (50 : Int) < (m.n : Int) := by omega
    go_enter Tryd.func4, Tryd.ntmps4
    go_wp2_with (go_at_call 12; refine (HA.out _ HS.out.2.2.2).mono ?_; rintro e w1 ⟨rfl, hw1⟩)
    go_ret
    exact ⟨rfl, (HS.out.2.2.2.below hw1).kept⟩
  have hkI : ¬ (50 : Int) < (m.n : Int) := by omega
  go_enter Tryd.func4, Tryd.ntmps4
  go_upto_region 3 with fail
  refine wp_region_held_drew (S := ApS w0 (.slice p l.length cap) l m) (by kernel_rfl) (ApS.below (Below.refl _ _).drew HS.out) (fun hS => ?_)
  clear HS k26
  generalize (w0.alloc (.cells (mca m) 30)).drew = W at *
  refine seqCall 0 rfl (by kernel_rfl) rfl (fun K hK => ?_)
  go_simp
  refine (HA.out _ hS.2.2.2).mono ?_
  rintro e w1 ⟨rfl, hw1⟩
  refine hK.out _ _ (ApS.below hw1 hS) (fun hS => ?_)
  clear hK K hw1
  try simp only [Act.put, List.setIfInBounds_toArray, List.set_cons_zero, List.set_cons_succ]
  refine seqRead 1 (v := _) rfl (by kernel_rfl) (by kernel_rfl) (by kernel_rfl) (fun _ _ _ h => h) rfl (fun w hSw => by go_simp <;> with_reducible rfl) hS ?_
  try simp only [Act.put, List.setIfInBounds_toArray, List.set_cons_zero, List.set_cons_succ]
  refine seqRead 2 (v := _) rfl (by kernel_rfl) (by kernel_rfl) (by kernel_rfl) (fun _ _ _ h => h) rfl (fun w hSw => by go_simp <;> with_reducible rfl) hS ?_
  try simp only [Act.put, List.setIfInBounds_toArray, List.set_cons_zero, List.set_cons_succ]
  refine seqRead 3 (v := _) rfl (by kernel_rfl) (by kernel_rfl) (by kernel_rfl) (fun _ _ _ h => h) rfl (fun w hSw => execRow0 rfl _ rfl hSw.2.2.1 Tryd.underlying30 rfl infoM) hS ?_
  try simp only [Act.put, List.setIfInBounds_toArray, List.set_cons_zero, List.set_cons_succ]
  refine seqRead 5 (v := _) rfl (by kernel_rfl) (by kernel_rfl) (by kernel_rfl) (fun _ _ _ h => h) rfl (fun w hSw => by go_simp <;> with_reducible rfl) hS ?_
  try simp only [Act.put, List.setIfInBounds_toArray, List.set_cons_zero, List.set_cons_succ]
  refine seqRead 6 (v := _) rfl (by kernel_rfl) (by kernel_rfl) (by kernel_rfl) (fun _ _ _ h => h) rfl (fun w hSw => execRow0 rfl _ rfl hSw.2.2.1 Tryd.underlying30 rfl infoM) hS ?_
  try simp only [Act.put, List.setIfInBounds_toArray, List.set_cons_zero, List.set_cons_succ]
  refine seqCall 4 rfl (by kernel_rfl) rfl (fun K hK => ?_)
  go_simp
  refine (touched_any _ l (by omega) HW.out m HM.out _ hS.1.1 hS.2.1 hS.2.2.2.tab hS.2.2.2.lt).mono ?_
  rintro e w2 ⟨v2, rfl, ho2, hw2⟩
  have HK2 := Lib.hid (ho2.lies okI)
  refine hK.out _ _ (ApS.below hw2 hS) (fun hS => ?_)
  clear hK K hw2 ho2
  try simp only [Act.put, List.setIfInBounds_toArray, List.set_cons_zero, List.set_cons_succ]
  refine seqCall 7 rfl (by kernel_rfl) rfl (fun K hK => ?_)
  go_simp
  refine (rtouched_any _ l (by omega) HW.out m HM.out _ hS.1.1 hS.2.1).mono ?_
  rintro e w3 ⟨v3, rfl, ho3, hw3⟩
  have HK3 := Lib.hid (And.intro (HK2.out.below okI hw3) (ho3.lies okI))
  refine hK.out _ _ (ApS.below hw3 hS) (fun hS => ?_)
  clear hK K hw3 ho3 HK2
  try simp only [Act.put, List.setIfInBounds_toArray, List.set_cons_zero, List.set_cons_succ]
  refine seqCall 8 rfl (by kernel_rfl) rfl (fun K hK => ?_)
  go_simp
  refine (rints_same _ _ _ (Nat.le_trans hits_len (by omega)) _ HK3.out.1 HK3.out.2).mono ?_
  rintro e w4 ⟨rfl, hw4⟩
  refine hK.out _ _ (ApS.below hw4 hS) (fun hS => ?_)
  clear hK K hw4 HK3
  try simp only [Act.put, List.setIfInBounds_toArray, List.set_cons_zero, List.set_cons_succ]
  refine seqRead 9 (v := _) rfl (by kernel_rfl) (by kernel_rfl) (by kernel_rfl) (fun _ _ _ h => h) rfl (fun w hSw => by go_simp <;> with_reducible rfl) hS ?_
  try simp only [Act.put, List.setIfInBounds_toArray, List.set_cons_zero, List.set_cons_succ]
  refine seqRead 10 (v := _) rfl (by kernel_rfl) (by kernel_rfl) (by kernel_rfl) (fun _ _ _ h => h) rfl (fun w hSw => by go_simp <;> with_reducible rfl) hS ?_
  try simp only [Act.put, List.setIfInBounds_toArray, List.set_cons_zero, List.set_cons_succ]
  refine seqDone (by kernel_rfl) ?_
  have HS := Lib.hid hS
  clear hS
  go_wp2_with fail
  go_ret
  exact ⟨rfl, HS.out.2.2.2.kept⟩
end Go.Proofs.YtghfohglnbenaaaDoor
