/-
  The walk of Apply of package mods.
-/
import Derived.Test.YtghfohglnbenaaaDoorModAddW
namespace Go.Proofs.YtghfohglnbenaaaDoor
set_option maxRecDepth 20000
open Go.RowKit

/-- what Apply has: the list, the change and its box -/
def ApS (w : World) (v : Value) (l : List Rm) (m : Mm) (W : World) : Prop := RLies v l W ∧ InM m W ∧ Blk w.heap.size (mca m) 30 W ∧ Env w W
theorem ApS.below {w : World} {v : Value} {l : List Rm} {m : Mm} {W W' : World} (hb : Below W.heap.size W W') (h : ApS w v l m W) : ApS w v l m W' := ⟨h.1.below hb, h.2.1.below hb, h.2.2.1.below hb, h.2.2.2.below hb⟩
theorem InS.up {w w2 W : World} {v : Value} {L : List Rm} (h : InS w2 v L W) (hb : Below w.heap.size w w2) : InS w v L W := ⟨h.1.mono hb.size, fun y hy => (h.2.1 y hy).mono hb.size, hb.trans (h.2.2.mono hb.size)⟩
theorem ApRet.up {w w2 W : World} {us : List Ru} {m : Mu} {room : Int} {e : Ending} (h : ApRet w2 us m room e W) (hb : Below w.heap.size w w2) : ApRet w us m room e W := by
  obtain ⟨v, L, h1, h2, h3⟩ := h
  exact ⟨v, L, h1, h2, h3.up hb⟩
theorem applyE_other {us : List Ru} {m : Mu} {room : Int} (ht : tabU us = true) (hs : sndM m = true) (hk : m.kind ≠ 1) : applyE us m room = 0 := by
  unfold applyE
  rw [if_neg (by simp [ht, hs]), if_neg hk]
theorem filt_map {m : Mm} (hs : sndM m.u = true) (L : List Rm) : (L.filter fun c => !tcS m c).map (·.u) = (L.map (·.u)).filter fun u => !tchB m.u u := by
  rw [List.filter_map]
  congr 1
  refine List.filter_congr fun x _ => ?_
  unfold tcS
  rw [hs, Bool.true_and]
  rfl
set_option maxHeartbeats 4000000 in
theorem apply_any (v : Value) (l : List Rm) (hlen : l.length ≤ 50000) (hwl : WfRL l) (m : Mm) (hw : WfM m.u) (room : Int) (w : World) (hl : RLies v l w) (ha : InM m w) (ht : Tab w) (hz : 0 < w.heap.size) :
    Calls Tryd.prog 13 #[v, .agg (mca m), .int .i64 room] w (ApRet w (l.map (·.u)) m.u room) := by
  obtain ⟨p, cap, rfl⟩ := hl.1.form
  have HS := Lib.hid (show ApS w (.slice p l.length cap) l m (w.alloc (.cells (mca m) 30)) from ⟨hl.below (below1 _ _), ha.below (below1 _ _), Blk.new _ _ _, (Env.start ht hz).alloc _⟩)
  have HT := Lib.hid (table_any _ l (by omega) hwl _ HS.out.1 HS.out.2.2.2.tab HS.out.2.2.2.lt)
  rw [tabB_tabU] at HT
  have HWL := Lib.hid hwl
  have HW := Lib.hid hw
  obtain ⟨us, hus⟩ : ∃ us, us = l.map (·.u) := ⟨_, rfl⟩
  rw [← hus]
  rw [← hus] at HT
  have HUS := Lib.hid hus
  clear hl ha hwl hw ht hus
  cases htb : tabU us
  · rw [htb] at HT
    have HR := Lib.hid (show applyE us m.u room = 2 by unfold applyE; rw [if_pos (by rw [htb]; rfl)])
    clear htb
    go_enter Tryd.func13, Tryd.ntmps13
    go_wp2_with (go_at_call 26; refine HT.out.mono ?_; rintro e w1 ⟨rfl, hw1⟩)
    go_ret2
    exact ApRet.no HR.out (by decide) (HS.out.2.2.2.below hw1).kept
  · rw [htb] at HT
    have HTB := Lib.hid htb
    clear htb
    go_enter Tryd.func13, Tryd.ntmps13
    go_wp2_with (go_at_call 26; refine HT.out.mono ?_; rintro e w1 ⟨rfl, hw1⟩; refine Hid.out ?_)
    have HS1 := Lib.hid (ApS.below hw1 HS.out)
    have HSo := Lib.hid (msound_any m HW.out w1 HS1.out.2.1 HS1.out.2.2.2.tab HS1.out.2.2.2.lt)
    have RM := Lib.hid HS1.out.2.2.1
    clear hw1 HT HS
    cases hs : sndM m.u
    · rw [hs] at HSo
      have HR := Lib.hid (show applyE us m.u room = 2 by unfold applyE; rw [if_pos (by rw [hs, Bool.and_false])])
      clear hs
      refine Lib.hid ?_
      go_wp2_with (first
        | (refine loadRowG rfl 30 _ rfl w.heap.size rfl 30 (mca m) (0, 0) RM.out Tryd.underlying30 rfl infoM ?_)
        | (go_at_call 16; refine HSo.out.mono ?_; rintro e w2 ⟨rfl, hw2⟩))
      go_ret2
      exact ApRet.no HR.out (by decide) (HS1.out.2.2.2.below hw2).kept
    · rw [hs] at HSo
      have HSN := Lib.hid hs
      clear hs
      refine Lib.hid ?_
      go_upto_region 3 with (first
        | (refine loadRowG rfl 30 _ rfl w.heap.size rfl 30 (mca m) (0, 0) RM.out Tryd.underlying30 rfl infoM ?_)
        | (go_at_call 16; refine HSo.out.mono ?_; rintro e w2 ⟨rfl, hw2⟩))
      have HS2 := Lib.hid (ApS.below hw2 HS1.out)
      clear hw2 HS1 HSo RM
      have RM := Lib.hid HS2.out.2.2.1
      have k0 := HS2.out.2.2.1.cellsM.1
      by_cases h1 : m.u.kind = 1
      · have h1d := eq_true0 h1
        have HAd := Lib.hid (add_any _ l hlen HWL.out m HW.out h1 HSN.out (by rw [← HUS.out]; exact HTB.out) room w2 HS2.out.1 HS2.out.2.1 HS2.out.2.2.2.tab HS2.out.2.2.2.lt)
        rw [← HUS.out] at HAd
        go_wp2_with (first
          | (refine wpList_load_row rfl 30 _ rfl w.heap.size rfl 30 (mca m) (0, 0) _ RM.out Tryd.underlying30 rfl infoM ?_)
          | (go_at_call 27; refine HAd.out.mono ?_; rintro e w3 ⟨rv, L, rfl, hL, hI⟩))
        go_ret2
        exact ⟨rv, L, rfl, hL, hI.up HS2.out.2.2.2.kept⟩
      have h1d := eq_false0 h1
      have HR := Lib.hid (applyE_other (room := room) HTB.out HSN.out h1)
      have HMd := Lib.hid (modify_any _ l (by omega) HWL.out m HW.out HSN.out w2 HS2.out.1 HS2.out.2.1 HS2.out.2.2.2.tab HS2.out.2.2.2.lt)
      rw [← HUS.out] at HMd
      by_cases h2 : m.u.kind = 2
      · have h2d := eq_true0 h2
        go_wp2_with (first
          | (refine wpList_load_row rfl 30 _ rfl w.heap.size rfl 30 (mca m) (0, 0) _ RM.out Tryd.underlying30 rfl infoM ?_)
          | (go_at_call 28; refine HMd.out.mono ?_; rintro e w3 ⟨g, L, rfl, hu, hc⟩))
        go_ret2
        exact (ApRet.tab HR.out (by rw [hu]; unfold applyL; rw [if_neg h1, if_pos (by omega)]) hc).up HS2.out.2.2.2.kept
      have h2d := eq_false0 h2
      by_cases h4 : m.u.kind = 4
      · have h4d := eq_true0 h4
        go_wp2_with (first
          | (refine wpList_load_row rfl 30 _ rfl w.heap.size rfl 30 (mca m) (0, 0) _ RM.out Tryd.underlying30 rfl infoM ?_)
          | (go_at_call 28; refine HMd.out.mono ?_; rintro e w3 ⟨g, L, rfl, hu, hc⟩))
        go_ret2
        exact (ApRet.tab HR.out (by rw [hu]; unfold applyL; rw [if_neg h1, if_pos (by omega)]) hc).up HS2.out.2.2.2.kept
      have h4d := eq_false0 h4
      clear HMd
      go_upto_region 9 with fail
      refine wp_region_held_drew (S := ApS w (.slice p l.length cap) l m) (by kernel_rfl) (ApS.below (Below.refl _ _).drew HS2.out) (fun hS => ?_)
      clear HS2 RM k0
      generalize w2.drew = W at *
      refine seqRead 0 (v := _) rfl (by kernel_rfl) (by kernel_rfl) (by kernel_rfl) (fun _ _ _ h => h) rfl (fun w hSw => by go_simp <;> with_reducible rfl) hS ?_
      try simp only [Act.put, List.setIfInBounds_toArray, List.set_cons_zero, List.set_cons_succ]
      refine seqRead 2 (v := _) rfl (by kernel_rfl) (by kernel_rfl) (by kernel_rfl) (fun _ _ _ h => h) rfl (fun w hSw => execRow0 rfl _ rfl hSw.2.2.1 Tryd.underlying30 rfl infoM) hS ?_
      try simp only [Act.put, List.setIfInBounds_toArray, List.set_cons_zero, List.set_cons_succ]
      refine seqCall 1 rfl (by kernel_rfl) rfl (fun K hK => ?_)
      go_simp
      refine (copy_any _ l (by omega) HWL.out _ hS.1).mono ?_
      rintro e w2 ⟨g, L0, rfl, hu, hc⟩
      have HS0 := Lib.hid hS
      refine hK.out _ _ (ApS.below hc.2.2.1 hS) (fun hS => ?_)
      clear hK K
      have HC2 := Lib.hid hc
      have HU := Lib.hid hu
      clear hc hu
      try simp only [Act.put, List.setIfInBounds_toArray, List.set_cons_zero, List.set_cons_succ]
      refine seqCall 3 rfl (by kernel_rfl) rfl (fun K hK => ?_)
      go_simp
      refine (tby_any m HW.out _ hS.2.1 hS.2.2.2.tab hS.2.2.2.lt).mono ?_
      rintro e w3 ⟨fg, cb, rfl, eg, hpa, hbm, hw3⟩
      refine hK.out _ _ (ApS.below hw3 hS) (fun hS => ?_)
      clear hK K
      have HC3 := Lib.hid (HC2.out.below hw3)
      have HNE := Lib.hid (show w2.heap.size ≠ g from fun e => by have := HC2.out.lt; omega)
      have HPA := Lib.hid hpa
      have HBM := Lib.hid hbm
      clear hpa hbm hw3 HC2
      try simp only [Act.put, List.setIfInBounds_toArray, List.set_cons_zero, List.set_cons_succ]
      refine seqCall 4 rfl (by kernel_rfl) rfl (fun K hK => ?_)
      go_simp
      refine (rdelete_any fg cb (tcS m) eg g w2.heap.size m L0 (by have := congrArg List.length HU.out; simp at this; omega) ((WfUL.of HWL.out).rl HU.out) W w3 HNE.out HC3.out HPA.out HBM.out HS0.out.2.2.2.tab HS0.out.2.2.2.lt).mono ?_
      rintro e w4 ⟨dv, rfl, hI⟩
      refine hK.out _ _ (ApS.below hI.2.2 HS0.out) (fun hS => ?_)
      clear hK K
      have HI4 := Lib.hid hI
      clear hI
      try simp only [Act.put, List.setIfInBounds_toArray, List.set_cons_zero, List.set_cons_succ]
      refine seqRead 5 (v := _) rfl (by kernel_rfl) (by kernel_rfl) (by kernel_rfl) (fun _ _ _ h => h) rfl (fun w hSw => by go_simp <;> with_reducible rfl) hS ?_
      try simp only [Act.put, List.setIfInBounds_toArray, List.set_cons_zero, List.set_cons_succ]
      refine seqRead 6 (v := _) rfl (by kernel_rfl) (by kernel_rfl) (by kernel_rfl) (fun _ _ _ h => h) rfl (fun w hSw => by go_simp <;> with_reducible rfl) hS ?_
      try simp only [Act.put, List.setIfInBounds_toArray, List.set_cons_zero, List.set_cons_succ]
      refine seqDone (by kernel_rfl) ?_
      clear hS
      have hLM := filt_map HSN.out L0
      rw [HU.out, ← HUS.out] at hLM
      have HLM := Lib.hid hLM
      have HKN := Lib.hid (show applyL us m.u = us.filter fun u => !tchB m.u u by unfold applyL; rw [if_neg h1, if_neg (by omega)])
      clear hLM
      go_wp2_with fail
      go_ret2
      exact ⟨dv, L0.filter (fun c => !tcS m c), by rw [HR.out]; rfl, by unfold applyV; rw [if_pos HR.out, HKN.out, HLM.out], HI4.out.up HS0.out.2.2.2.kept⟩
end Go.Proofs.YtghfohglnbenaaaDoor
