/-
  The walk of the law ModsApply.
-/
import Derived.Test.YtghfohglnbenaaaDoorModRAp
namespace Go.Proofs.YtghfohglnbenaaaDoor
open Go.RowKit

/-- the list, the change, what Apply and the reference's made -/
def AqS (w0 : World) (v : Value) (l : List Rm) (m : Mm) (v1 : Value) (L1 : List Rm) (v2 : Value) (L2 : List Rm) (W : World) : Prop := ApS w0 v l m W ∧ RLies v1 L1 W ∧ RLies v2 L2 W
theorem AqS.below {w0 : World} {v v1 v2 : Value} {l L1 L2 : List Rm} {m : Mm} {W W' : World} (hb : Below W.heap.size W W') (h : AqS w0 v l m v1 L1 v2 L2 W) : AqS w0 v l m v1 L1 v2 L2 W' := ⟨ApS.below hb h.1, h.2.1.below hb, h.2.2.below hb⟩
set_option maxRecDepth 100000 in
set_option maxHeartbeats 4000000 in
theorem modsApply_any (v : Value) (l : List Rm) (hw : WfRL l) (hlen : l.length ≤ 140737488355328) (m : Mm) (hm : WfM m.u) (room : Int) (_ : I64 room) (w0 : World) (hl : RLies v l w0) (ha : InM m w0) (ht : Tab w0) (hz : 0 < w0.heap.size) :
    Calls Tryd.prog 3 #[v, .agg (mca m), .int .i64 room] w0 fun e w' => e = .returned (.bool true) ∧ Below w0.heap.size w0 w' := by
  obtain ⟨p, cap, rfl⟩ := hl.1.form
  have HS := Lib.hid (show ApS w0 (.slice p l.length cap) l m (w0.alloc (.cells (mca m) 30)) from ⟨hl.below (below1 _ _), ha.below (below1 _ _), Blk.new _ _ _, (Env.start ht hz).alloc _⟩)
  have HA := Lib.hid (fun (W : World) (hS : Env w0 W) => manswers W hS.tab hS.lt)
  have HSo := Lib.hid (fun (W : World) (hS : ApS w0 (.slice p l.length cap) l m W) => msound_any m hm W hS.2.1 hS.2.2.2.tab hS.2.2.2.lt)
  have HMo := Lib.hid (fun (W : World) (hS : ApS w0 (.slice p l.length cap) l m W) => rmod_any m hm W hS.2.1)
  have HW := Lib.hid hw
  have HM := Lib.hid hm
  have k26 := HS.out.2.2.1.cellsM.2.2.2.1
  obtain ⟨sn, hsn⟩ : ∃ sn, sn = sndM m.u := ⟨_, rfl⟩
  rw [← hsn] at HSo HMo
  clear ht hl hw ha hm hsn
  by_cases hn : 50 < l.length
  · have hnI : (50 : Int) < (l.length : Int) := by omega
    go_enter Tryd.func3, Tryd.ntmps3
    go_wp2_with (go_at_call 12; refine (HA.out _ HS.out.2.2.2).mono ?_; rintro e w1 ⟨rfl, hw1⟩)
    go_ret
    exact ⟨rfl, (HS.out.2.2.2.below hw1).kept⟩
  have hnI : ¬ (50 : Int) < (l.length : Int) := by omega
  by_cases hk : 50 < m.n
  · have hkI : (50 : Int) < (m.n : Int) := by omega
    go_enter Tryd.func3, Tryd.ntmps3
    go_wp2_with (go_at_call 12; refine (HA.out _ HS.out.2.2.2).mono ?_; rintro e w1 ⟨rfl, hw1⟩)
    go_ret
    exact ⟨rfl, (HS.out.2.2.2.below hw1).kept⟩
  have hkI : ¬ (50 : Int) < (m.n : Int) := by omega
  obtain ⟨E, hE⟩ : ∃ E, E = applyE (l.map (·.u)) m.u room := ⟨_, rfl⟩
  obtain ⟨V, hV⟩ : ∃ V, V = applyV (l.map (·.u)) m.u room := ⟨_, rfl⟩
  have HE1 := Lib.hid hE
  have HV1 := Lib.hid hV
  have HVL := Lib.hid (show ∀ L : List Rm, L.map (·.u) = V → L.length ≤ 51 ∧ WfRL L ∧ (E = 0 → tabB L = true) from fun L hL => by
    rw [hV] at hL
    rw [hE]
    by_cases h0 : applyE (l.map (·.u)) m.u room = 0
    · rw [appV_ok h0] at hL
      exact ⟨len_app (n := 50) (by omega) hL, wf_app HW.out HM.out hL, fun _ => by rw [tabB_tabU, hL]; exact apply_tab h0⟩
    · rw [appV_no h0] at hL
      obtain rfl : L = [] := by simpa using hL
      exact ⟨Nat.zero_le _, fun r hr => (by cases hr), fun h => absurd h h0⟩)
  clear hE hV
  go_enter Tryd.func3, Tryd.ntmps3
  go_upto_region 3 with fail
  refine wp_region_held_drew (S := ApS w0 (.slice p l.length cap) l m) (by kernel_rfl) (ApS.below (Below.refl _ _).drew HS.out) (fun hS => ?_)
  have HSW := Lib.hid hS
  clear HS k26
  generalize (w0.alloc (.cells (mca m) 30)).drew = W at *
  refine seqRead 1 (v := _) rfl (by kernel_rfl) (by kernel_rfl) (by kernel_rfl) (fun _ _ _ h => h) rfl (fun w hSw => by go_simp <;> with_reducible rfl) hS ?_
  try simp only [Act.put, List.setIfInBounds_toArray, List.set_cons_zero, List.set_cons_succ]
  refine seqRead 3 (v := _) rfl (by kernel_rfl) (by kernel_rfl) (by kernel_rfl) (fun _ _ _ h => h) rfl (fun w hSw => execRow0 rfl _ rfl hSw.2.2.1 Tryd.underlying30 rfl infoM) hS ?_
  try simp only [Act.put, List.setIfInBounds_toArray, List.set_cons_zero, List.set_cons_succ]
  refine seqRead 4 (v := _) rfl (by kernel_rfl) (by kernel_rfl) (by kernel_rfl) (fun _ _ _ h => h) rfl (fun w hSw => by go_simp <;> with_reducible rfl) hS ?_
  try simp only [Act.put, List.setIfInBounds_toArray, List.set_cons_zero, List.set_cons_succ]
  refine seqCall 0 rfl (by kernel_rfl) rfl (fun K hK => ?_)
  refine kbuildNoneWp KR okR rfl ?_
  have HO := Lib.hid (KOwns.built (K := KR) W W.heap.size (Nat.le_refl _))
  have HB0 := Lib.hid (below1 W (.cells #[] KR.T))
  refine hK.out _ _ (ApS.below (below1 _ _) hS) (fun hS => ?_)
  clear hK K
  try simp only [Act.put, List.setIfInBounds_toArray, List.set_cons_zero, List.set_cons_succ]
  refine seqCall 2 rfl (by kernel_rfl) rfl (fun K hK => ?_)
  refine kappendWp KR okR (.tmp 22) (.tmp 23) rfl W.heap.size _ [] l rfl HO.out _ rfl hS.1.1 HB0.out.size (by simp; omega) (fun v5 w5 ho5 hg5 => ?_)
  have hb5 := kbelowOwn HB0.out HO.out (Nat.le_refl _) hg5
  have S5 := ApS.below hb5 HSW.out
  have HL5 := Lib.hid (show RLies v5 l w5 from ⟨by have := ho5.lies okR; simpa using this, S5.1.2⟩)
  clear ho5 hg5 HO HB0 hb5
  refine hK.out _ _ S5 (fun hS => ?_)
  clear hK K S5
  try simp only [Act.put, List.setIfInBounds_toArray, List.set_cons_zero, List.set_cons_succ]
  refine seqCall 5 rfl (by kernel_rfl) rfl (fun K hK => ?_)
  go_simp
  refine (apply_at v5 l (by omega) HW.out m HM.out room _ HL5.out hS.2.1 hS.2.2.2.tab hS.2.2.2.lt _ rfl _ _ HE1.out.symm HV1.out.symm).mono ?_
  rintro e w6 ⟨v1, L1, rfl, hu1, hi1⟩
  have HI1 := Lib.hid hi1.lies
  have HU1 := Lib.hid hu1
  refine hK.out _ _ (ApS.below hi1.2.2 hS) (fun hS => ?_)
  clear hK K hu1 hi1 HL5
  try simp only [Act.put, List.setIfInBounds_toArray, List.set_cons_zero, List.set_cons_succ]
  refine seqRead 6 (v := _) rfl (by kernel_rfl) (by kernel_rfl) (by kernel_rfl) (fun _ _ _ h => h) rfl (fun w hSw => by go_simp <;> with_reducible rfl) hS ?_
  try simp only [Act.put, List.setIfInBounds_toArray, List.set_cons_zero, List.set_cons_succ]
  refine seqRead 7 (v := _) rfl (by kernel_rfl) (by kernel_rfl) (by kernel_rfl) (fun _ _ _ h => h) rfl (fun w hSw => by go_simp <;> with_reducible rfl) hS ?_
  try simp only [Act.put, List.setIfInBounds_toArray, List.set_cons_zero, List.set_cons_succ]
  refine seqRead 8 (v := _) rfl (by kernel_rfl) (by kernel_rfl) (by kernel_rfl) (fun _ _ _ h => h) rfl (fun w hSw => by go_simp <;> with_reducible rfl) hS ?_
  try simp only [Act.put, List.setIfInBounds_toArray, List.set_cons_zero, List.set_cons_succ]
  refine seqRead 9 (v := _) rfl (by kernel_rfl) (by kernel_rfl) (by kernel_rfl) (fun _ _ _ h => h) rfl (fun w hSw => by go_simp <;> with_reducible rfl) hS ?_
  try simp only [Act.put, List.setIfInBounds_toArray, List.set_cons_zero, List.set_cons_succ]
  refine seqRead 10 (v := _) rfl (by kernel_rfl) (by kernel_rfl) (by kernel_rfl) (fun _ _ _ h => h) rfl (fun w hSw => by go_simp <;> with_reducible rfl) hS ?_
  try simp only [Act.put, List.setIfInBounds_toArray, List.set_cons_zero, List.set_cons_succ]
  refine seqDone (by kernel_rfl) ?_
  have HS6 := Lib.hid hS
  have RM := Lib.hid HS6.out.2.2.1
  have HP := Lib.hid (rapply_any _ l (by omega) HW.out m HM.out room w6 HS6.out.1 HS6.out.2.1 HS6.out.2.2.2.tab HS6.out.2.2.2.lt)
  clear hS HSW
  unfold RaR at HP
  rw [← HE1.out, ← HV1.out] at HP
  go_upto_region 5 with (first
    | (refine wpList_load_row rfl 30 _ rfl w0.heap.size rfl 30 (mca m) (0, 0) _ RM.out Tryd.underlying30 rfl infoM ?_)
    | (go_at_call 14; refine HP.out.mono ?_; rintro e w7 ⟨v2, L2, rfl, hu2, hl2, hw7⟩; refine Hid.out ?_))
  have HQ := Lib.hid (show AqS w0 (.slice p l.length cap) l m v1 L1 v2 L2 w7 from ⟨ApS.below hw7 HS6.out, HI1.out.below hw7, hl2⟩)
  have HUU := Lib.hid (HU1.out.trans hu2.symm)
  have HL1 := Lib.hid (show L1.length ≤ 1000000 by have := (HVL.out L1 HU1.out).1; omega)
  have HW2 := Lib.hid (HVL.out L2 hu2).2.1
  have HTa := Lib.hid (fun (W : World) (hS : RLies v1 L1 W) => rtable_b v1 L1 (by have := (HVL.out L1 HU1.out).1; omega) (HVL.out L1 HU1.out).2.1 W hS)
  have HTt := Lib.hid (HVL.out L1 HU1.out).2.2
  have hse : (sn == sn) = true := by cases sn <;> rfl
  clear hw7 hl2 hu2 HS6 RM HP HI1 HVL
  refine Lib.hid ?_
  by_cases h0 : E = 0
  · subst h0
    rw [HTt.out rfl] at HTa
    go_upto_region 5 with fail
    refine wp_region_held_drew (S := AqS w0 (.slice p l.length cap) l m v1 L1 v2 L2) (by kernel_rfl) (AqS.below (Below.refl _ _).drew HQ.out) (fun hS => ?_)
    clear HQ
    generalize w7.drew = W7 at *
    refine seqCall 0 rfl (by kernel_rfl) rfl (fun K hK => ?_)
    go_simp
    refine (HA.out _ hS.1.2.2.2).mono ?_
    rintro e w8 ⟨rfl, hw8⟩
    refine hK.out _ _ (AqS.below hw8 hS) (fun hS => ?_)
    clear hK K hw8
    try simp only [Act.put, List.setIfInBounds_toArray, List.set_cons_zero, List.set_cons_succ]
    refine seqRead 1 (v := _) rfl (by kernel_rfl) (by kernel_rfl) (by kernel_rfl) (fun _ _ _ h => h) rfl (fun w hSw => by go_simp <;> with_reducible rfl) hS ?_
    try simp only [Act.put, List.setIfInBounds_toArray, List.set_cons_zero, List.set_cons_succ]
    refine seqRead 2 (v := _) rfl (by kernel_rfl) (by kernel_rfl) (by kernel_rfl) (fun _ _ _ h => h) rfl (fun w hSw => by go_simp <;> with_reducible rfl) hS ?_
    try simp only [Act.put, List.setIfInBounds_toArray, List.set_cons_zero, List.set_cons_succ]
    refine seqRead 3 (v := _) rfl (by kernel_rfl) (by kernel_rfl) (by kernel_rfl) (fun _ _ _ h => h) rfl (fun w hSw => by go_simp <;> with_reducible rfl) hS ?_
    try simp only [Act.put, List.setIfInBounds_toArray, List.set_cons_zero, List.set_cons_succ]
    refine seqRead 4 (v := _) rfl (by kernel_rfl) (by kernel_rfl) (by kernel_rfl) (fun _ _ _ h => h) rfl (fun w hSw => by go_simp <;> with_reducible rfl) hS ?_
    try simp only [Act.put, List.setIfInBounds_toArray, List.set_cons_zero, List.set_cons_succ]
    refine seqRead 5 (v := _) rfl (by kernel_rfl) (by kernel_rfl) (by kernel_rfl) (fun _ _ _ h => h) rfl (fun w hSw => by go_simp <;> with_reducible rfl) hS ?_
    try simp only [Act.put, List.setIfInBounds_toArray, List.set_cons_zero, List.set_cons_succ]
    refine seqRead 6 (v := _) rfl (by kernel_rfl) (by kernel_rfl) (by kernel_rfl) (fun _ _ _ h => h) rfl (fun w hSw => by go_simp <;> with_reducible rfl) hS ?_
    try simp only [Act.put, List.setIfInBounds_toArray, List.set_cons_zero, List.set_cons_succ]
    refine seqRead 7 (v := _) rfl (by kernel_rfl) (by kernel_rfl) (by kernel_rfl) (fun _ _ _ h => h) rfl (fun w hSw => by go_simp <;> with_reducible rfl) hS ?_
    try simp only [Act.put, List.setIfInBounds_toArray, List.set_cons_zero, List.set_cons_succ]
    refine seqRead 8 (v := _) rfl (by kernel_rfl) (by kernel_rfl) (by kernel_rfl) (fun _ _ _ h => h) rfl (fun w hSw => by go_simp <;> with_reducible rfl) hS ?_
    try simp only [Act.put, List.setIfInBounds_toArray, List.set_cons_zero, List.set_cons_succ]
    refine seqCall 9 rfl (by kernel_rfl) rfl (fun K hK => ?_)
    go_simp
    refine (rsame_eq v1 v2 L1 L2 HL1.out HW2.out HUU.out _ hS.2.1 hS.2.2).mono ?_
    rintro e w8 ⟨rfl, hw8⟩
    refine hK.out _ _ (AqS.below hw8 hS) (fun hS => ?_)
    clear hK K hw8
    try simp only [Act.put, List.setIfInBounds_toArray, List.set_cons_zero, List.set_cons_succ]
    refine seqRead 10 (v := _) rfl (by kernel_rfl) (by kernel_rfl) (by kernel_rfl) (fun _ _ _ h => h) rfl (fun w hSw => by go_simp <;> with_reducible rfl) hS ?_
    try simp only [Act.put, List.setIfInBounds_toArray, List.set_cons_zero, List.set_cons_succ]
    refine seqRead 11 (v := _) rfl (by kernel_rfl) (by kernel_rfl) (by kernel_rfl) (fun _ _ _ h => h) rfl (fun w hSw => by go_simp <;> with_reducible rfl) hS ?_
    try simp only [Act.put, List.setIfInBounds_toArray, List.set_cons_zero, List.set_cons_succ]
    refine seqRead 12 (v := _) rfl (by kernel_rfl) (by kernel_rfl) (by kernel_rfl) (fun _ _ _ h => h) rfl (fun w hSw => execRow0 rfl _ rfl hSw.1.2.2.1 Tryd.underlying30 rfl infoM) hS ?_
    try simp only [Act.put, List.setIfInBounds_toArray, List.set_cons_zero, List.set_cons_succ]
    refine seqRead 14 (v := _) rfl (by kernel_rfl) (by kernel_rfl) (by kernel_rfl) (fun _ _ _ h => h) rfl (fun w hSw => execRow0 rfl _ rfl hSw.1.2.2.1 Tryd.underlying30 rfl infoM) hS ?_
    try simp only [Act.put, List.setIfInBounds_toArray, List.set_cons_zero, List.set_cons_succ]
    refine seqCall 13 rfl (by kernel_rfl) rfl (fun K hK => ?_)
    go_simp
    refine (HSo.out _ hS.1).mono ?_
    rintro e w8 ⟨rfl, hw8⟩
    refine hK.out _ _ (AqS.below hw8 hS) (fun hS => ?_)
    clear hK K hw8
    try simp only [Act.put, List.setIfInBounds_toArray, List.set_cons_zero, List.set_cons_succ]
    refine seqCall 15 rfl (by kernel_rfl) rfl (fun K hK => ?_)
    go_simp
    refine (HMo.out _ hS.1).mono ?_
    rintro e w8 ⟨rfl, hw8⟩
    refine hK.out _ _ (AqS.below hw8 hS) (fun hS => ?_)
    clear hK K hw8
    try simp only [Act.put, List.setIfInBounds_toArray, List.set_cons_zero, List.set_cons_succ]
    refine seqRead 16 (v := _) rfl (by kernel_rfl) (by kernel_rfl) (by kernel_rfl) (fun _ _ _ h => h) rfl (fun w hSw => by go_simp <;> with_reducible rfl) hS ?_
    try simp only [Act.put, List.setIfInBounds_toArray, List.set_cons_zero, List.set_cons_succ]
    refine seqRead 17 (v := _) rfl (by kernel_rfl) (by kernel_rfl) (by kernel_rfl) (fun _ _ _ h => h) rfl (fun w hSw => by go_simp <;> with_reducible rfl) hS ?_
    try simp only [Act.put, List.setIfInBounds_toArray, List.set_cons_zero, List.set_cons_succ]
    refine seqRead 18 (v := _) rfl (by kernel_rfl) (by kernel_rfl) (by kernel_rfl) (fun _ _ _ h => h) rfl (fun w hSw => by go_simp <;> with_reducible rfl) hS ?_
    try simp only [Act.put, List.setIfInBounds_toArray, List.set_cons_zero, List.set_cons_succ]
    refine seqRead 19 (v := _) rfl (by kernel_rfl) (by kernel_rfl) (by kernel_rfl) (fun _ _ _ h => h) rfl (fun w hSw => by go_simp <;> with_reducible rfl) hS ?_
    try simp only [Act.put, List.setIfInBounds_toArray, List.set_cons_zero, List.set_cons_succ]
    refine seqRead 20 (v := _) rfl (by kernel_rfl) (by kernel_rfl) (by kernel_rfl) (fun _ _ _ h => h) rfl (fun w hSw => by go_simp <;> with_reducible rfl) hS ?_
    try simp only [Act.put, List.setIfInBounds_toArray, List.set_cons_zero, List.set_cons_succ]
    refine seqRead 21 (v := _) rfl (by kernel_rfl) (by kernel_rfl) (by kernel_rfl) (fun _ _ _ h => h) rfl (fun w hSw => by go_simp <;> with_reducible rfl) hS ?_
    try simp only [Act.put, List.setIfInBounds_toArray, List.set_cons_zero, List.set_cons_succ]
    refine seqRead 22 (v := _) rfl (by kernel_rfl) (by kernel_rfl) (by kernel_rfl) (fun _ _ _ h => h) rfl (fun w hSw => by go_simp <;> with_reducible rfl) hS ?_
    try simp only [Act.put, List.setIfInBounds_toArray, List.set_cons_zero, List.set_cons_succ]
    refine seqCall 23 rfl (by kernel_rfl) rfl (fun K hK => ?_)
    go_simp
    refine (HTa.out _ hS.2.1).mono ?_
    rintro e w8 ⟨rfl, hw8⟩
    refine hK.out _ _ (AqS.below hw8 hS) (fun hS => ?_)
    clear hK K hw8
    try simp only [Act.put, List.setIfInBounds_toArray, List.set_cons_zero, List.set_cons_succ]
    refine seqRead 24 (v := _) rfl (by kernel_rfl) (by kernel_rfl) (by kernel_rfl) (fun _ _ _ h => h) rfl (fun w hSw => by go_simp <;> with_reducible rfl) hS ?_
    try simp only [Act.put, List.setIfInBounds_toArray, List.set_cons_zero, List.set_cons_succ]
    refine seqRead 25 (v := _) rfl (by kernel_rfl) (by kernel_rfl) (by kernel_rfl) (fun _ _ _ h => h) rfl (fun w hSw => by go_simp <;> with_reducible rfl) hS ?_
    try simp only [Act.put, List.setIfInBounds_toArray, List.set_cons_zero, List.set_cons_succ]
    refine seqRead 26 (v := _) rfl (by kernel_rfl) (by kernel_rfl) (by kernel_rfl) (fun _ _ _ h => h) rfl (fun w hSw => by go_simp <;> with_reducible rfl) hS ?_
    try simp only [Act.put, List.setIfInBounds_toArray, List.set_cons_zero, List.set_cons_succ]
    refine seqDone (by kernel_rfl) ?_
    have HQ := Lib.hid hS
    clear hS
    go_wp2_with fail
    go_ret
    exact ⟨rfl, HQ.out.1.2.2.2.kept⟩
  · have h0n := neT h0
    go_upto_region 5 with fail
    refine wp_region_held_drew (S := AqS w0 (.slice p l.length cap) l m v1 L1 v2 L2) (by kernel_rfl) (AqS.below (Below.refl _ _).drew HQ.out) (fun hS => ?_)
    clear HQ
    generalize w7.drew = W7 at *
    refine seqCall 0 rfl (by kernel_rfl) rfl (fun K hK => ?_)
    go_simp
    refine (HA.out _ hS.1.2.2.2).mono ?_
    rintro e w8 ⟨rfl, hw8⟩
    refine hK.out _ _ (AqS.below hw8 hS) (fun hS => ?_)
    clear hK K hw8
    try simp only [Act.put, List.setIfInBounds_toArray, List.set_cons_zero, List.set_cons_succ]
    refine seqRead 1 (v := _) rfl (by kernel_rfl) (by kernel_rfl) (by kernel_rfl) (fun _ _ _ h => h) rfl (fun w hSw => by go_simp <;> with_reducible rfl) hS ?_
    try simp only [Act.put, List.setIfInBounds_toArray, List.set_cons_zero, List.set_cons_succ]
    refine seqRead 2 (v := _) rfl (by kernel_rfl) (by kernel_rfl) (by kernel_rfl) (fun _ _ _ h => h) rfl (fun w hSw => by go_simp <;> with_reducible rfl) hS ?_
    try simp only [Act.put, List.setIfInBounds_toArray, List.set_cons_zero, List.set_cons_succ]
    refine seqRead 3 (v := _) rfl (by kernel_rfl) (by kernel_rfl) (by kernel_rfl) (fun _ _ _ h => h) rfl (fun w hSw => by go_simp <;> with_reducible rfl) hS ?_
    try simp only [Act.put, List.setIfInBounds_toArray, List.set_cons_zero, List.set_cons_succ]
    refine seqRead 4 (v := _) rfl (by kernel_rfl) (by kernel_rfl) (by kernel_rfl) (fun _ _ _ h => h) rfl (fun w hSw => by go_simp <;> with_reducible rfl) hS ?_
    try simp only [Act.put, List.setIfInBounds_toArray, List.set_cons_zero, List.set_cons_succ]
    refine seqRead 5 (v := _) rfl (by kernel_rfl) (by kernel_rfl) (by kernel_rfl) (fun _ _ _ h => h) rfl (fun w hSw => by go_simp <;> with_reducible rfl) hS ?_
    try simp only [Act.put, List.setIfInBounds_toArray, List.set_cons_zero, List.set_cons_succ]
    refine seqRead 6 (v := _) rfl (by kernel_rfl) (by kernel_rfl) (by kernel_rfl) (fun _ _ _ h => h) rfl (fun w hSw => by go_simp <;> with_reducible rfl) hS ?_
    try simp only [Act.put, List.setIfInBounds_toArray, List.set_cons_zero, List.set_cons_succ]
    refine seqRead 7 (v := _) rfl (by kernel_rfl) (by kernel_rfl) (by kernel_rfl) (fun _ _ _ h => h) rfl (fun w hSw => by go_simp <;> with_reducible rfl) hS ?_
    try simp only [Act.put, List.setIfInBounds_toArray, List.set_cons_zero, List.set_cons_succ]
    refine seqRead 8 (v := _) rfl (by kernel_rfl) (by kernel_rfl) (by kernel_rfl) (fun _ _ _ h => h) rfl (fun w hSw => by go_simp <;> with_reducible rfl) hS ?_
    try simp only [Act.put, List.setIfInBounds_toArray, List.set_cons_zero, List.set_cons_succ]
    refine seqCall 9 rfl (by kernel_rfl) rfl (fun K hK => ?_)
    go_simp
    refine (rsame_eq v1 v2 L1 L2 HL1.out HW2.out HUU.out _ hS.2.1 hS.2.2).mono ?_
    rintro e w8 ⟨rfl, hw8⟩
    refine hK.out _ _ (AqS.below hw8 hS) (fun hS => ?_)
    clear hK K hw8
    try simp only [Act.put, List.setIfInBounds_toArray, List.set_cons_zero, List.set_cons_succ]
    refine seqRead 10 (v := _) rfl (by kernel_rfl) (by kernel_rfl) (by kernel_rfl) (fun _ _ _ h => h) rfl (fun w hSw => by go_simp <;> with_reducible rfl) hS ?_
    try simp only [Act.put, List.setIfInBounds_toArray, List.set_cons_zero, List.set_cons_succ]
    refine seqRead 11 (v := _) rfl (by kernel_rfl) (by kernel_rfl) (by kernel_rfl) (fun _ _ _ h => h) rfl (fun w hSw => by go_simp <;> with_reducible rfl) hS ?_
    try simp only [Act.put, List.setIfInBounds_toArray, List.set_cons_zero, List.set_cons_succ]
    refine seqRead 12 (v := _) rfl (by kernel_rfl) (by kernel_rfl) (by kernel_rfl) (fun _ _ _ h => h) rfl (fun w hSw => execRow0 rfl _ rfl hSw.1.2.2.1 Tryd.underlying30 rfl infoM) hS ?_
    try simp only [Act.put, List.setIfInBounds_toArray, List.set_cons_zero, List.set_cons_succ]
    refine seqRead 14 (v := _) rfl (by kernel_rfl) (by kernel_rfl) (by kernel_rfl) (fun _ _ _ h => h) rfl (fun w hSw => execRow0 rfl _ rfl hSw.1.2.2.1 Tryd.underlying30 rfl infoM) hS ?_
    try simp only [Act.put, List.setIfInBounds_toArray, List.set_cons_zero, List.set_cons_succ]
    refine seqCall 13 rfl (by kernel_rfl) rfl (fun K hK => ?_)
    go_simp
    refine (HSo.out _ hS.1).mono ?_
    rintro e w8 ⟨rfl, hw8⟩
    refine hK.out _ _ (AqS.below hw8 hS) (fun hS => ?_)
    clear hK K hw8
    try simp only [Act.put, List.setIfInBounds_toArray, List.set_cons_zero, List.set_cons_succ]
    refine seqCall 15 rfl (by kernel_rfl) rfl (fun K hK => ?_)
    go_simp
    refine (HMo.out _ hS.1).mono ?_
    rintro e w8 ⟨rfl, hw8⟩
    refine hK.out _ _ (AqS.below hw8 hS) (fun hS => ?_)
    clear hK K hw8
    try simp only [Act.put, List.setIfInBounds_toArray, List.set_cons_zero, List.set_cons_succ]
    refine seqRead 16 (v := _) rfl (by kernel_rfl) (by kernel_rfl) (by kernel_rfl) (fun _ _ _ h => h) rfl (fun w hSw => by go_simp <;> with_reducible rfl) hS ?_
    try simp only [Act.put, List.setIfInBounds_toArray, List.set_cons_zero, List.set_cons_succ]
    refine seqRead 17 (v := _) rfl (by kernel_rfl) (by kernel_rfl) (by kernel_rfl) (fun _ _ _ h => h) rfl (fun w hSw => by go_simp <;> with_reducible rfl) hS ?_
    try simp only [Act.put, List.setIfInBounds_toArray, List.set_cons_zero, List.set_cons_succ]
    refine seqRead 18 (v := _) rfl (by kernel_rfl) (by kernel_rfl) (by kernel_rfl) (fun _ _ _ h => h) rfl (fun w hSw => by go_simp <;> with_reducible rfl) hS ?_
    try simp only [Act.put, List.setIfInBounds_toArray, List.set_cons_zero, List.set_cons_succ]
    refine seqRead 19 (v := _) rfl (by kernel_rfl) (by kernel_rfl) (by kernel_rfl) (fun _ _ _ h => h) rfl (fun w hSw => by go_simp <;> with_reducible rfl) hS ?_
    try simp only [Act.put, List.setIfInBounds_toArray, List.set_cons_zero, List.set_cons_succ]
    refine seqRead 20 (v := _) rfl (by kernel_rfl) (by kernel_rfl) (by kernel_rfl) (fun _ _ _ h => h) rfl (fun w hSw => by go_simp <;> with_reducible rfl) hS ?_
    try simp only [Act.put, List.setIfInBounds_toArray, List.set_cons_zero, List.set_cons_succ]
    refine seqRead 21 (v := _) rfl (by kernel_rfl) (by kernel_rfl) (by kernel_rfl) (fun _ _ _ h => h) rfl (fun w hSw => by go_simp <;> with_reducible rfl) hS ?_
    try simp only [Act.put, List.setIfInBounds_toArray, List.set_cons_zero, List.set_cons_succ]
    refine seqSkip 22 rfl (by kernel_rfl) (by kernel_rfl) (by kernel_rfl) (fun _ _ _ h => h) rfl hS ?_
    try simp only [Act.put, List.setIfInBounds_toArray, List.set_cons_zero, List.set_cons_succ]
    refine seqSkip 23 rfl (by kernel_rfl) (by kernel_rfl) (by kernel_rfl) (fun _ _ _ h => h) rfl hS ?_
    try simp only [Act.put, List.setIfInBounds_toArray, List.set_cons_zero, List.set_cons_succ]
    refine seqRead 24 (v := _) rfl (by kernel_rfl) (by kernel_rfl) (by kernel_rfl) (fun _ _ _ h => h) rfl (fun w hSw => by go_simp <;> with_reducible rfl) hS ?_
    try simp only [Act.put, List.setIfInBounds_toArray, List.set_cons_zero, List.set_cons_succ]
    refine seqRead 25 (v := _) rfl (by kernel_rfl) (by kernel_rfl) (by kernel_rfl) (fun _ _ _ h => h) rfl (fun w hSw => by go_simp <;> with_reducible rfl) hS ?_
    try simp only [Act.put, List.setIfInBounds_toArray, List.set_cons_zero, List.set_cons_succ]
    refine seqRead 26 (v := _) rfl (by kernel_rfl) (by kernel_rfl) (by kernel_rfl) (fun _ _ _ h => h) rfl (fun w hSw => by go_simp <;> with_reducible rfl) hS ?_
    try simp only [Act.put, List.setIfInBounds_toArray, List.set_cons_zero, List.set_cons_succ]
    refine seqDone (by kernel_rfl) ?_
    have HQ := Lib.hid hS
    clear hS
    go_wp2_with fail
    go_ret
    exact ⟨rfl, HQ.out.1.2.2.2.kept⟩
end Go.Proofs.YtghfohglnbenaaaDoor
