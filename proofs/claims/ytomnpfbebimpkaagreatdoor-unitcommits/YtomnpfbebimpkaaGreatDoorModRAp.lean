/-
  The reference's Apply.
-/
import Derived.Test.YtomnpfbebimpkaaGreatDoorModRAdd
import Derived.Test.YtomnpfbebimpkaaGreatDoorModROth
namespace Go.Proofs.YtomnpfbebimpkaaGreatDoor
set_option maxRecDepth 20000
open Go.RowKit

set_option maxRecDepth 100000 in
set_option maxHeartbeats 4000000 in
theorem rapply_own (v : Value) (l : List Rm) (hlen : l.length ≤ 9000) (hwl : WfRL l) (m : Mm) (hw : WfM m.u) (room : Int) (w : World) (hl : RLies v l w) (ha : InM m w) (ht : Tab w) (hz : 0 < w.heap.size) :
    Calls Tryz.prog 26 #[v, .agg (mca m), .int .i64 room] w (RaO w l m room) := by
  cases htb : tabU (l.map (·.u))
  · obtain ⟨p, cap, rfl⟩ := hl.1.form
    have HR := Lib.hid (show applyE (l.map (·.u)) m.u room = 2 by unfold applyE; rw [if_pos (by rw [htb]; rfl)])
    have HS := Lib.hid (show ApS w (.slice p l.length cap) l m (w.alloc (.cells (mca m) 40)) from ⟨hl.below (below1 _ _), ha.below (below1 _ _), Blk.new _ _ _, (Env.start ht hz).alloc _⟩)
    have HT := Lib.hid (rtable_b _ l (by omega) hwl _ HS.out.1)
    rw [tabB_tabU, htb] at HT
    clear htb hl ha ht hwl hw
    go_enter Tryz.func26, Tryz.ntmps26
    go_wp2_with (go_at_call 22; refine HT.out.mono ?_; rintro e w1 ⟨rfl, hw1⟩)
    go_ret2
    exact RaO.no HR.out (by decide) (HS.out.2.2.2.below hw1).kept
  · cases hs : sndM m.u
    · obtain ⟨p, cap, rfl⟩ := hl.1.form
      have HR := Lib.hid (show applyE (l.map (·.u)) m.u room = 2 by unfold applyE; rw [if_pos (by rw [hs, Bool.and_false])])
      have HS := Lib.hid (show ApS w (.slice p l.length cap) l m (w.alloc (.cells (mca m) 40)) from ⟨hl.below (below1 _ _), ha.below (below1 _ _), Blk.new _ _ _, (Env.start ht hz).alloc _⟩)
      have HT := Lib.hid (rtable_b _ l (by omega) hwl _ HS.out.1)
      rw [tabB_tabU, htb] at HT
      have HMo := Lib.hid (fun (W : World) (hS : ApS w (.slice p l.length cap) l m W) => rmod_any m hw W hS.2.1)
      rw [hs] at HMo
      clear htb hs hl ha ht hwl hw
      go_enter Tryz.func26, Tryz.ntmps26
      go_wp2_with (go_at_call 22; refine HT.out.mono ?_; rintro e w1 ⟨rfl, hw1⟩; refine Hid.out ?_)
      have HS1 := Lib.hid (ApS.below hw1 HS.out)
      have RM := Lib.hid HS1.out.2.2.1
      have HMo1 := Lib.hid (HMo.out _ HS1.out)
      clear hw1 HS HT HMo
      refine Lib.hid ?_
      go_wp2_with (first
        | (refine loadRowG rfl 40 _ rfl w.heap.size rfl 40 (mca m) (0, 0) RM.out Tryz.underlying40 rfl infoM ?_)
        | (go_at_call 25; refine HMo1.out.mono ?_; rintro e w2 ⟨rfl, hw2⟩))
      go_ret2
      exact RaO.no HR.out (by decide) (HS1.out.2.2.2.below hw2).kept
    · by_cases hk : m.u.kind = 1
      · exact rapply_add v l hlen hwl m hw hk hs htb room w hl ha ht hz
      · exact rapply_oth v l hlen hwl m hw hk hs htb room w hl ha ht hz
end Go.Proofs.YtomnpfbebimpkaaGreatDoor
