/-
  The walk of the law RuleTables.
-/
import Derived.Test.YthalpnmejompdaaDoorRuleJoinsW
import Derived.Test.YthalpnmejompdaaDoorRuleTbl
import Derived.Test.YthalpnmejompdaaDoorRuleRSt
namespace Go.Proofs.YthalpnmejompdaaDoor
open Go.RowKit

theorem tblOf_self (us : List Ru) : tblOf (tblOf us) = tblOf us := by
  have e : (tblOf us).filter sndR = tblOf us := List.filter_eq_self.2 fun u hu => (tblOf_snd hu).2
  show srtL rOrd ((tblOf us).filter sndR) = tblOf us
  rw [e]
  exact srtL_self (tblOf_srt us)
theorem tabB_tbl {l : List Rm} {us : List Ru} (h : l.map (·.u) = tblOf us) : tabB l = true := tabB_srt (by rw [h]; exact tblOf_srt us) fun r hr => (tblOf_snd (us := us) (by rw [← h]; exact List.mem_map_of_mem hr)).2
set_option maxRecDepth 100000 in
set_option maxHeartbeats 2000000 in
theorem ruleTables_any (v : Value) (l : List Rm) (hw : WfRL l) (hlen : l.length ≤ 140737488355328) (w0 : World) (hl : RLies v l w0) (ht : Tab w0) (hz : 0 < w0.heap.size) :
    Calls Tryd.prog 4 #[v] w0 fun e w' => e = .returned (.bool true) ∧ Below w0.heap.size w0 w' := by
  obtain ⟨p, cap, rfl⟩ := hl.1.form
  have HE := Lib.hid (fun (W : World) (hb : Below w0.heap.size w0 W) => (Env.start ht hz).predK W hb)
  have HA := Lib.hid (fun (W : World) (hb : Below w0.heap.size w0 W) => ranswers W (HE.out W hb).1 (HE.out W hb).2)
  have HL := Lib.hid hl
  clear ht hl
  by_cases hn : 60 < l.length
  · have hnI : (60 : Int) < (l.length : Int) := by omega
    go_enter Tryd.func4, Tryd.ntmps4
    go_wp2_with (go_at_call 10; refine (HA.out _ (Below.refl _ _)).mono ?_; rintro e w1 ⟨rfl, hw1⟩)
    go_ret
    exact ⟨rfl, hw1⟩
  · have hnI : ¬ (60 : Int) < (l.length : Int) := by omega
    have hl60 : l.length ≤ 60 := by omega
    have HS := Lib.hid (fun (v : Value) (l : List Rm) (hlen : l.length ≤ 100000) (hw : WfRL l) (W : World) (hb : Below w0.heap.size w0 W) (hl : RLies v l W) => rsort_any v l hlen hw W hl (HE.out W hb).1 (HE.out W hb).2)
    have HW := Lib.hid hw
    have HU := Lib.hid (WfUL.of hw)
    have C1 := Lib.hid (copy_any _ l (by omega) hw w0 HL.out)
    clear hw hlen hn
    go_enter Tryd.func4, Tryd.ntmps4
    go_wp2_with (go_at_call 20; refine C1.out.mono ?_; rintro e w1 ⟨gc, C, rfl, hx, hcx⟩; refine Hid.out ?_)
    have TC := Lib.hid (TabAt.of hx hcx)
    have B1 := Lib.hid (show Below w0.heap.size w0 w1 from hcx.2.2.1)
    have HCl : C.length ≤ 60 := by have := TC.out.len; rw [List.length_map] at this; omega
    clear hx hcx C1
    have C2 := Lib.hid (HS.out _ C (by omega) (WfUL.rl HU.out TC.out.is) w1 B1.out TC.out.lies)
    refine Lib.hid ?_
    go_wp2_with (go_at_call 19; refine C2.out.mono ?_; rintro e w2 ⟨gs, s, rfl, hx, hcx⟩; refine Hid.out ?_)
    have hx' : s.map (·.u) = tblOf (l.map (·.u)) := by rw [hx, TC.out.is]
    have HX := Lib.hid hx'
    have TS := Lib.hid (TabAt.of hx' hcx)
    have hb2 : Below w1.heap.size w1 w2 := hcx.2.2.1
    have H2 := Lib.hid (show SmS w0 (.slice p l.length cap) (.slice (some ⟨gs, 0, none⟩) s.length s.length) l s w2 from ⟨HL.out.below (B1.out.trans (hb2.mono B1.out.size)), TS.out.lies, B1.out.trans (hb2.mono B1.out.size)⟩)
    have hsl : s.length ≤ 60 := by have h := TS.out.len; have h2 := tblOf_len (l.map (·.u)); rw [List.length_map] at h2; omega
    have HWS := Lib.hid (WfUL.rl (WfUL.tbl HU.out) hx')
    clear hx hx' hcx hb2 C2 TC B1 TS HL
    refine Lib.hid ?_
    go_wp2_with (go_at_call 10; refine (HA.out _ H2.out.2.2).mono ?_; rintro e w3 ⟨rfl, hw3⟩; refine Hid.out ?_)
    have H3 := Lib.hid (SmS.below hw3 H2.out)
    clear hw3 H2
    have C3 := Lib.hid (table_any _ l (by omega) HW.out w3 H3.out.1 (HE.out w3 H3.out.2.2).1 (HE.out w3 H3.out.2.2).2)
    obtain ⟨y, hy⟩ : ∃ y, y = tabB l := ⟨_, rfl⟩
    rw [← hy] at C3
    have HYT := Lib.hid hy
    clear hy
    refine Lib.hid ?_
    go_wp2_with (go_at_call 21; refine C3.out.mono ?_; rintro e w4 ⟨rfl, hw4⟩; refine Hid.out ?_)
    have H4 := Lib.hid (SmS.below hw4 H3.out)
    clear hw4 H3 C3
    have C4 := Lib.hid (rtable_any _ l (by omega) HW.out w4 H4.out.1 (HE.out w4 H4.out.2.2).1 (HE.out w4 H4.out.2.2).2)
    rw [← HYT.out] at C4
    refine Lib.hid ?_
    go_wp2_with (go_at_call 22; refine C4.out.mono ?_; rintro e w5 ⟨rfl, hw5⟩; refine Hid.out ?_)
    have H5 := Lib.hid (SmS.below hw5 H4.out)
    clear hw5 H4 C4
    have C5 := Lib.hid (rrsort_any _ l (by omega) HW.out w5 H5.out.1 (HE.out w5 H5.out.2.2).1 (HE.out w5 H5.out.2.2).2)
    refine Lib.hid ?_
    go_wp2_with (go_at_call 24; refine C5.out.mono ?_; rintro e w6 ⟨vr, rfl, hr, hw6⟩; refine Hid.out ?_)
    have H6 := Lib.hid (SmS.below hw6 H5.out)
    have HR := Lib.hid (show RLies vr (tblM l) w6 from ⟨hr, fun r hq => H6.out.1.2 r (tblM_sub hq)⟩)
    clear hw6 hr H5 C5
    have C6 := Lib.hid (rsame_rules _ vr s (tblM l) (by omega) (fun r hq => HW.out r (tblM_sub hq)) w6 H6.out.2.1 HR.out)
    have e6 : sameL (s.map (·.u)) ((tblM l).map (·.u)) = true := by rw [HX.out, tblM_map]; exact sameL_self _
    rw [e6] at C6
    clear e6
    obtain ⟨pr, cr, rfl⟩ := HR.out.1.form
    obtain ⟨nr, hnr⟩ : ∃ nr, nr = (tblM l).length := ⟨_, rfl⟩
    rw [← hnr] at C6
    refine Lib.hid ?_
    rw [← hnr]
    clear hnr HR
    go_wp2_with (go_at_call 23; refine C6.out.mono ?_; rintro e w7 ⟨rfl, hw7⟩; refine Hid.out ?_)
    have H7 := Lib.hid (SmS.below hw7 H6.out)
    clear hw7 H6 C6
    have C7 := Lib.hid (table_any _ s (by omega) HWS.out w7 H7.out.2.1 (HE.out w7 H7.out.2.2).1 (HE.out w7 H7.out.2.2).2)
    rw [tabB_tbl HX.out] at C7
    refine Lib.hid ?_
    go_wp2_with (go_at_call 21; refine C7.out.mono ?_; rintro e w8 ⟨rfl, hw8⟩; refine Hid.out ?_)
    have H8 := Lib.hid (SmS.below hw8 H7.out)
    clear hw8 H7 C7
    have C8 := Lib.hid (HS.out _ s (by omega) HWS.out w8 H8.out.2.2 H8.out.2.1)
    refine Lib.hid ?_
    go_wp2_with (go_at_call 19; refine C8.out.mono ?_; rintro e w9 ⟨gy, Y, rfl, hx, hcx⟩; refine Hid.out ?_)
    have TY := Lib.hid (TabAt.of hx hcx)
    have H9 := Lib.hid (SmS.below hcx.2.2.1 H8.out)
    have hYl : Y.length ≤ 60 := by have h := TY.out.len; have h2 := tblOf_len (s.map (·.u)); rw [List.length_map] at h2; omega
    clear hx hcx H8 C8
    have C9 := Lib.hid (same_rules _ _ Y s (by omega) HWS.out w9 TY.out.lies H9.out.2.1)
    have e9 : sameL (Y.map (·.u)) (s.map (·.u)) = true := by rw [TY.out.is, HX.out, tblOf_self]; exact sameL_self _
    rw [e9] at C9
    clear e9 TY
    refine Lib.hid ?_
    go_wp2_with (go_at_call 25; refine C9.out.mono ?_; rintro e w10 ⟨rfl, hw10⟩; refine Hid.out ?_)
    have H10 := Lib.hid (SmS.below hw10 H9.out)
    clear hw10 H9 C9
    have C10 := Lib.hid (copy_any _ l (by omega) HW.out w10 H10.out.1)
    refine Lib.hid ?_
    go_wp2_with (go_at_call 20; refine C10.out.mono ?_; rintro e w11 ⟨gd, D, rfl, hx, hcx⟩; refine Hid.out ?_)
    have TD := Lib.hid (TabAt.of hx hcx)
    have H11 := Lib.hid (SmS.below hcx.2.2.1 H10.out)
    have hDl : D.length ≤ 60 := by have h := TD.out.len; rw [List.length_map] at h; omega
    clear hx hcx H10 C10
    have C11 := Lib.hid (same_rules _ _ D l (by omega) HW.out w11 TD.out.lies H11.out.1)
    have e11 : sameL (D.map (·.u)) (l.map (·.u)) = true := by rw [TD.out.is]; exact sameL_self _
    rw [e11] at C11
    clear e11 TD
    refine Lib.hid ?_
    go_wp2_with (go_at_call 25; refine C11.out.mono ?_; rintro e w12 ⟨rfl, hw12⟩)
    go_ret
    exact ⟨rfl, (SmS.below hw12 H11.out).2.2⟩
end Go.Proofs.YthalpnmejompdaaDoor
