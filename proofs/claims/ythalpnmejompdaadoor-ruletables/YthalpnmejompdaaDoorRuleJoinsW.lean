/-
  The walk of the law RuleJoins.
-/
import Derived.Test.YthalpnmejompdaaDoorRuleSameW
import Derived.Test.YthalpnmejompdaaDoorRuleTab
namespace Go.Proofs.YthalpnmejompdaaDoor
open Go.RowKit

theorem tblOf_snd {us : List Ru} {u : Ru} (h : u ∈ tblOf us) : u ∈ us ∧ sndR u = true := by
  have := srtL_sub rOrd_ordd h
  rw [List.mem_filter] at this
  exact this
theorem tblOf_join (A B : List Ru) : tblOf (tblOf A ++ tblOf B) = tblOf (A ++ B) := by
  have e : ∀ C : List Ru, (tblOf C).filter sndR = tblOf C := fun C => List.filter_eq_self.2 fun u hu => (tblOf_snd hu).2
  show srtL rOrd ((tblOf A ++ tblOf B).filter sndR) = srtL rOrd ((A ++ B).filter sndR)
  rw [List.filter_append, List.filter_append, e, e]
  exact (srtL_join rOrd_ordd _ _).symm
theorem tblOf_len (us : List Ru) : (tblOf us).length ≤ us.length := Nat.le_trans (srtL_len _) (List.length_filter_le _ _)
theorem WfUL.tbl {us : List Ru} (h : WfUL us) : WfUL (tblOf us) := fun u hu => h u (tblOf_snd hu).1
set_option maxRecDepth 100000 in
set_option maxHeartbeats 2000000 in
theorem ruleJoins_any (v1 : Value) (a : List Rm) (wa : WfRL a) (la : a.length ≤ 140737488355328) (v2 : Value) (b : List Rm) (wb : WfRL b) (lb : b.length ≤ 140737488355328) (w0 : World) (h1 : RLies v1 a w0) (h2 : RLies v2 b w0) (ht : Tab w0) (hz : 0 < w0.heap.size) :
    Calls Tryd.prog 9 #[v1, v2] w0 fun e w' => e = .returned (.bool true) ∧ Below w0.heap.size w0 w' := by
  obtain ⟨p1, c1, rfl⟩ := h1.1.form
  obtain ⟨p2, c2, rfl⟩ := h2.1.form
  have H0 := Lib.hid (show SmS w0 (.slice p1 a.length c1) (.slice p2 b.length c2) a b w0 from ⟨h1, h2, Below.refl _ _⟩)
  have HE := Lib.hid (fun (W : World) (hb : Below w0.heap.size w0 W) => (Env.start ht hz).predK W hb)
  have HA := Lib.hid (fun (W : World) (hb : Below w0.heap.size w0 W) => ranswers W (HE.out W hb).1 (HE.out W hb).2)
  have HS := Lib.hid (fun (v : Value) (l : List Rm) (hlen : l.length ≤ 100000) (hw : WfRL l) (W : World) (hb : Below w0.heap.size w0 W) (hl : RLies v l W) => rsort_any v l hlen hw W hl (HE.out W hb).1 (HE.out W hb).2)
  clear ht h1 h2
  by_cases n1 : 20 < a.length
  · have n1I : (20 : Int) < (a.length : Int) := by omega
    go_enter Tryd.func9, Tryd.ntmps9
    go_wp2_with (go_at_call 10; refine (HA.out _ H0.out.2.2).mono ?_; rintro e w1 ⟨rfl, hw1⟩)
    go_ret
    exact ⟨rfl, hw1⟩
  · have n1I : ¬ (20 : Int) < (a.length : Int) := by omega
    by_cases n2 : 20 < b.length
    · have n2I : (20 : Int) < (b.length : Int) := by omega
      go_enter Tryd.func9, Tryd.ntmps9
      go_wp2_with (go_at_call 10; refine (HA.out _ H0.out.2.2).mono ?_; rintro e w1 ⟨rfl, hw1⟩)
      go_ret
      exact ⟨rfl, hw1⟩
    · have n2I : ¬ (20 : Int) < (b.length : Int) := by omega
      have HWA := Lib.hid (WfUL.of wa)
      have HWB := Lib.hid (WfUL.of wb)
      have HwA := Lib.hid wa
      have HwB := Lib.hid wb
      have HLa := Lib.hid ((SmS.below (below1 w0 (.cells #[] KR.T)) H0.out).1.1)
      clear wa wb HE la lb
      go_enter Tryd.func9, Tryd.ntmps9
      go_wp2_with (first
        | (refine kbuildNone KR okR rfl rfl ?_)
        | (refine kappend KR okR rfl (.tmp 17) (.tmp 18) rfl w0.heap.size _ [] a rfl (KOwns.built w0 _ (Nat.le_refl _)) _ rfl HLa.out (by simp) (by simp; omega) (fun v3 w2 ho hg => ?_); refine Hid.out ?_))
      have HO2 := Lib.hid ho
      have hb2 := kbelowOwn (below1 w0 (.cells #[] KR.T)) (KOwns.built (K := KR) w0 w0.heap.size (Nat.le_refl _)) (Nat.le_refl _) hg
      have H2 := Lib.hid (SmS.below hb2 H0.out)
      have HLb := Lib.hid H2.out.2.1.1
      clear ho hg hb2 HLa
      refine Lib.hid ?_
      go_wp2_with (refine kappend KR okR rfl (.tmp 19) (.tmp 20) rfl w0.heap.size v3 ([] ++ a) b rfl HO2.out _ rfl HLb.out H2.out.2.2.size (by simp; omega) (fun v4 w3 ho hg => ?_); refine Hid.out ?_)
      have hb3 := kbelowOwn H2.out.2.2 HO2.out (Nat.le_refl _) hg
      have H3 := Lib.hid (SmS.below hb3 H0.out)
      have ho' : KLies KR v4 (a ++ b) w3 := ho.lies okR
      have HAll := Lib.hid (RLies.app ho' H3.out.1 H3.out.2.1)
      clear ho ho' hg hb3 HO2 H2 HLb
      obtain ⟨all, hall⟩ : ∃ all, all = a ++ b := ⟨_, rfl⟩
      rw [← hall] at HAll
      have HX := Lib.hid hall
      have hal : all.length ≤ 40 := by rw [hall, List.length_append]; omega
      have HWX := Lib.hid (show WfRL all from fun r hr => by
        rw [hall] at hr
        rcases List.mem_append.1 hr with q | q
        · exact HwA.out r q
        · exact HwB.out r q)
      clear hall
      obtain ⟨p4, c4, rfl⟩ := HAll.out.1.form
      have C1 := Lib.hid (HS.out _ all (by omega) HWX.out w3 H3.out.2.2 HAll.out)
      refine Lib.hid ?_
      go_wp2_with (go_at_call 19; refine C1.out.mono ?_; rintro e w4 ⟨gx, X, rfl, hx, hcx⟩; refine Hid.out ?_)
      have TX := Lib.hid (TabAt.of hx hcx)
      have hb4 : Below w3.heap.size w3 w4 := hcx.2.2.1
      have H4 := Lib.hid (SmS.below hb4 H3.out)
      have RX := Lib.hid TX.out.lies
      have hs04 : w0.heap.size ≤ w4.heap.size := H4.out.2.2.size
      clear hx hcx hb4 C1 H3 HAll
      have hXl : X.length ≤ all.length := by have := TX.out.len; have h := tblOf_len (all.map (·.u)); rw [List.length_map] at h; omega
      have hXI : (X.length : Int) ≤ (all.length : Int) := by omega
      have C2 := Lib.hid (HS.out _ a (by omega) HwA.out w4 H4.out.2.2 H4.out.1)
      refine Lib.hid ?_
      go_wp2_with (go_at_call 19; refine C2.out.mono ?_; rintro e w5 ⟨gl, L, rfl, hx, hcx⟩; refine Hid.out ?_)
      have TL := Lib.hid (TabAt.of hx hcx)
      have hb5 : Below w4.heap.size w4 w5 := hcx.2.2.1
      have H5 := Lib.hid (SmS.below hb5 H4.out)
      have B45 := Lib.hid hb5
      clear hx hcx hb5 C2 H4
      have C3 := Lib.hid (HS.out _ b (by omega) HwB.out w5 H5.out.2.2 H5.out.2.1)
      refine Lib.hid ?_
      go_wp2_with (go_at_call 19; refine C3.out.mono ?_; rintro e w6 ⟨gm, M, rfl, hx, hcx⟩; refine Hid.out ?_)
      have TM := Lib.hid (TabAt.of hx hcx)
      have hb6 : Below w5.heap.size w5 w6 := hcx.2.2.1
      have H6 := Lib.hid (SmS.below hb6 H5.out)
      have B46 := Lib.hid (B45.out.trans (hb6.mono B45.out.size))
      have hlg : gl < w5.heap.size := TL.out.at_.lt
      have hgm : gl < gm := by have := TM.out.ge; omega
      have TL6 := Lib.hid (TL.out.below hb6)
      have hgl : w4.heap.size ≤ gl := TL.out.ge
      clear hx hcx hb6 C3 H5 B45 TL
      have HLM := Lib.hid TM.out.lies.1
      refine Lib.hid ?_
      go_wp2_with (refine kappend KR okR rfl (.tmp 25) (.tmp 27) rfl gl _ L M rfl (KAt.owns okR TL6.out.at_ (Nat.le_refl _)) _ rfl HLM.out (by have := TL6.out.at_.lt; omega) (by have h3 := TL6.out.len; have h4 := TM.out.len; have h5 := tblOf_len (a.map (·.u)); have h6 := tblOf_len (b.map (·.u)); rw [List.length_map] at h5 h6; omega) (fun v7 w7 ho hg0 => ?_); refine Hid.out ?_)
      have hg : w6.grownBy w7 (some gl) := hg0
      clear hg0
      have hbb : ∀ k, gl + 1 ≤ k → k < w6.heap.size → w7.heap[k]? = w6.heap[k]? := fun k hk hl => hg.block k hl (fun e => by injection e with e; omega)
      have B47 := Lib.hid (B46.out.grown hg B46.out.size fun k e => by injection e with e; omega)
      have B07 := Lib.hid (H6.out.2.2.grown hg H6.out.2.2.size fun k e => by injection e with e; omega)
      obtain ⟨LM, hLM⟩ : ∃ LM, LM = L ++ M := ⟨_, rfl⟩
      have HRL := Lib.hid (show RLies v7 LM w7 by
        rw [hLM]
        refine ⟨ho.lies okR, fun r hr => ?_⟩
        rcases List.mem_append.1 hr with q | q
        · exact OwnA.inA (KOwns.other (TL6.out.own r q) hbb)
        · exact OwnA.inA (KOwns.other (KOwns.mono (TM.out.own r q) (show gl + 1 ≤ gm + 1 by omega)) hbb))
      have HMU := Lib.hid (show LM.map (·.u) = tblOf (a.map (·.u)) ++ tblOf (b.map (·.u)) by rw [hLM, List.map_append, TL6.out.is, TM.out.is])
      have hlml : LM.length ≤ 40 := by
        have e := congrArg List.length HMU.out
        have h5 := tblOf_len (a.map (·.u))
        have h6 := tblOf_len (b.map (·.u))
        rw [List.length_map, List.length_append] at e
        rw [List.length_map] at h5 h6
        omega
      have HWM := Lib.hid (WfUL.rl (WfUL.app HWA.out.tbl HWB.out.tbl) HMU.out)
      clear ho hg hbb hLM B46 H6 TL6 TM HLM
      obtain ⟨p7, c7, rfl⟩ := HRL.out.1.form
      have C4 := Lib.hid (HS.out _ LM (by omega) HWM.out w7 B07.out HRL.out)
      refine Lib.hid ?_
      go_wp2_with (go_at_call 19; refine C4.out.mono ?_; rintro e w8 ⟨gy, Y, rfl, hx, hcx⟩; refine Hid.out ?_)
      have TY := Lib.hid (TabAt.of hx hcx)
      have hb8 : Below w7.heap.size w7 w8 := hcx.2.2.1
      have B48 := Lib.hid (B47.out.trans (hb8.mono B47.out.size))
      have B08 := Lib.hid (B07.out.trans (hb8.mono B07.out.size))
      clear hx hcx hb8 C4 HRL B47 B07
      refine Lib.hid ?_
      go_wp2_with (go_at_call 10; refine (HA.out _ B08.out).mono ?_; rintro e w9 ⟨rfl, hw9⟩; refine Hid.out ?_)
      have TY9 := Lib.hid (TY.out.below hw9)
      have B49 := Lib.hid (B48.out.trans (hw9.mono B48.out.size))
      have B09 := Lib.hid (B08.out.trans (hw9.mono B08.out.size))
      clear hw9 TY B48 B08
      have C5 := Lib.hid (same_rules _ _ X Y (by omega) (WfUL.rl (WfUL.tbl (WfUL.of HWM.out)) TY9.out.is) w9 (RX.out.below B49.out) TY9.out.lies)
      have e5 : sameL (X.map (·.u)) (Y.map (·.u)) = true := by
        rw [TX.out.is, TY9.out.is, HMU.out, tblOf_join, HX.out, List.map_append]
        exact sameL_self _
      rw [e5] at C5
      clear e5 TX
      refine Lib.hid ?_
      go_wp2_with (go_at_call 25; refine C5.out.mono ?_; rintro e w10 ⟨rfl, hw10⟩)
      go_ret
      exact ⟨rfl, B09.out.trans (hw10.mono B09.out.size)⟩
end Go.Proofs.YthalpnmejompdaaDoor
