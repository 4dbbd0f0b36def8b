/-
  The walk of the law UndoTwice.
-/
import Derived.Test.YthnfaccenlkedaaDoorUndLaw
namespace Go.Proofs.YthnfaccenlkedaaDoor
open Go.RowKit

set_option maxRecDepth 100000 in
set_option maxHeartbeats 8000000 in
theorem undoTwice_can (v1 v2 : Value) (a b : List Rm) (hwa : WfRL a) (hwb : WfRL b) (hca : CanL (a.map (·.u))) (hcb : CanL (b.map (·.u))) (ha1 : a.length ≤ 140737488355328) (hb1 : b.length ≤ 140737488355328)
    (w0 : World) (ha : RLies v1 a w0) (hb : RLies v2 b w0) (ht : Tab w0) (hz : 0 < w0.heap.size) :
    Calls Tryd.prog 7 #[v1, v2] w0 fun e w' => e = .returned (.bool true) ∧ Below w0.heap.size w0 w' := by
  obtain ⟨p, cap, rfl⟩ := ha.1.form
  obtain ⟨pb, capb, rfl⟩ := hb.1.form
  have HA := Lib.hid (fun (W : World) (hS : Env w0 W) => uanswers W hS.tab hS.lt)
  have HS := Lib.hid (show MemS w0 [] [(.slice p a.length cap, a), (.slice pb b.length capb, b)] w0 from ⟨Env.start ht hz, fun x hx => (by cases hx), fun x hx => by
    simp only [List.mem_cons, List.not_mem_nil, or_false] at hx
    rcases hx with rfl | rfl
    · exact ha
    · exact hb⟩)
  have HWA := Lib.hid hwa
  have HWB := Lib.hid hwb
  clear ht ha hb hwa hwb
  by_cases hn : 40 < a.length
  · have hnI : (40 : Int) < (a.length : Int) := by omega
    go_enter Tryd.func7, Tryd.ntmps7
    go_wp2_with (go_at_call 8; refine (HA.out _ HS.out.1).mono ?_; rintro e w1 ⟨rfl, hw1⟩)
    go_ret
    exact ⟨rfl, (HS.out.1.below hw1).kept⟩
  have hnI : ¬ (40 : Int) < (a.length : Int) := by omega
  by_cases hn2 : 40 < b.length
  · have hbI : (40 : Int) < (b.length : Int) := by omega
    go_enter Tryd.func7, Tryd.ntmps7
    go_wp2_with (go_at_call 8; refine (HA.out _ HS.out.1).mono ?_; rintro e w1 ⟨rfl, hw1⟩)
    go_ret
    exact ⟨rfl, (HS.out.1.below hw1).kept⟩
  have hbI : ¬ (40 : Int) < (b.length : Int) := by omega
  have HT1 := Lib.hid (rtable_b _ a (by omega) HWA.out w0 (HS.out.at_ 0 rfl))
  have HTb := Lib.hid (fun (W : World) (h : MemS w0 [] [(.slice p a.length cap, a), (.slice pb b.length capb, b)] W) => rtable_b _ b (by omega) HWB.out W (h.at_ 1 rfl))
  rw [tabB_tabU] at HT1 HTb
  obtain ⟨us, hus⟩ : ∃ us, us = a.map (·.u) := ⟨_, rfl⟩
  obtain ⟨ks, hks⟩ : ∃ ks, ks = b.map (·.u) := ⟨_, rfl⟩
  rw [← hus] at HT1 hca
  rw [← hks] at HTb hcb
  have HUS := Lib.hid hus.symm
  have HKS := Lib.hid hks.symm
  have HN := Lib.hid (show us.length ≤ 40 ∧ ks.length ≤ 40 by rw [hus, hks, List.length_map, List.length_map]; omega)
  have HCA := Lib.hid hca
  have HCB := Lib.hid hcb
  have HVA := Lib.hid (show WfUL us by rw [hus]; exact WfUL.of HWA.out)
  have HVB := Lib.hid (show WfUL ks by rw [hks]; exact WfUL.of HWB.out)
  clear hus hks hca hcb
  cases h1 : tabU us
  · rw [h1] at HT1
    clear h1
    go_enter Tryd.func7, Tryd.ntmps7
    go_wp2_with (go_at_call 10; refine HT1.out.mono ?_; rintro e w1 ⟨rfl, hw1⟩; refine Hid.out ?_)
    have HS1 := Lib.hid (HS.out.below hw1)
    have HA1 := Lib.hid (HA.out w1 HS1.out.1)
    clear hw1 HT1 HS
    refine Lib.hid ?_
    go_wp2_with (go_at_call 8; refine HA1.out.mono ?_; rintro e w2 ⟨rfl, hw2⟩)
    go_ret
    exact ⟨rfl, (HS1.out.1.below hw2).kept⟩
  rw [h1] at HT1
  have H1 := Lib.hid h1
  clear h1
  go_enter Tryd.func7, Tryd.ntmps7
  go_wp2_with (go_at_call 10; refine HT1.out.mono ?_; rintro e w1 ⟨rfl, hw1⟩; refine Hid.out ?_)
  have HS1 := Lib.hid (HS.out.below hw1)
  have HT2 := Lib.hid (HTb.out w1 HS1.out)
  clear hw1 HT1 HS HTb
  cases h2 : tabU ks
  · rw [h2] at HT2
    clear h2
    refine Lib.hid ?_
    go_wp2_with (go_at_call 10; refine HT2.out.mono ?_; rintro e w2 ⟨rfl, hw2⟩; refine Hid.out ?_)
    have HS2 := Lib.hid (HS1.out.below hw2)
    have HA2 := Lib.hid (HA.out w2 HS2.out.1)
    clear hw2 HT2 HS1
    refine Lib.hid ?_
    go_wp2_with (go_at_call 8; refine HA2.out.mono ?_; rintro e w3 ⟨rfl, hw3⟩)
    go_ret
    exact ⟨rfl, (HS2.out.1.below hw3).kept⟩
  rw [h2] at HT2
  have H2 := Lib.hid h2
  clear h2
  refine Lib.hid ?_
  go_wp2_with (go_at_call 10; refine HT2.out.mono ?_; rintro e w2 ⟨rfl, hw2⟩; refine Hid.out ?_)
  have HS2 := Lib.hid (HS1.out.below hw2)
  have HD2 := Lib.hid (diff_any _ _ a b (by omega) (by omega) HWA.out HWB.out w2 (HS2.out.at_ 0 rfl) (HS2.out.at_ 1 rfl) HS2.out.1.tab HS2.out.1.lt)
  rw [HUS.out, HKS.out] at HD2
  clear hw2 HT2 HS1
  refine Lib.hid ?_
  go_wp2_with (go_at_call 9; refine HD2.out.mono ?_; rintro e w3 ⟨x1, P1, x2, P2, rfl, hu1, hu2, hi1, hi2⟩; refine Hid.out ?_)
  obtain ⟨q1, d1, rfl⟩ := hi1.1.form
  obtain ⟨q2, d2, rfl⟩ := hi2.1.form
  have HP1 := Lib.hid hu1
  have HP2 := Lib.hid hu2
  have HS3 := Lib.hid (((MemS.below hi1.2.2 HS2.out).push hi2.lies).push hi1.lies)
  have HS4 := Lib.hid ((MemS.below (below1 w3 (.cells #[.slice q1 P1.length d1, .slice q2 P2.length d2] 25)) HS3.out).box (Blk.new w3 #[.slice q1 P1.length d1, .slice q2 P2.length d2] 25))
  clear hu1 hu2 hi1 hi2 HD2 HS2 HS3
  refine Lib.hid ?_
  go_upto_region 4 with (refine wpList_store_row rfl 25 _ _ rfl w3.heap.size #[.slice q1 P1.length d1, .slice q2 P2.length d2] rfl rfl 25 _ (heap_alloc_new _ _) (by kernel_rfl) rfl (by simp [Value.oneCell']) ?_; rw [World.setRow_alloc_new])
  generalize w3.alloc (.cells #[.slice q1 P1.length d1, .slice q2 P2.length d2] 25) = W4 at *
  have RP4 := Lib.hid (HS4.out.blk 0 rfl)
  have HF4 := Lib.hid (forth_tab H1.out H2.out HCA.out HCB.out HVA.out HVB.out (by have := HN.out; omega) (by have := HN.out; omega) _ _ _ a P1 P2 W4 HUS.out HP1.out HP2.out (HS4.out.at_ 2 rfl) (HS4.out.at_ 0 rfl) (HS4.out.at_ 1 rfl) HS4.out.1.tab HS4.out.1.lt)
  go_upto_region 5 with (first
    | (refine wpList_load_row rfl 25 _ rfl w3.heap.size rfl 25 #[.slice q1 P1.length d1, .slice q2 P2.length d2] (0, 0) _ RP4.out Tryd.underlying25 rfl infoP ?_)
    | (go_at_call 11; refine HF4.out.mono ?_; rintro e w5 ⟨v5, L5, rfl, hu5, hi5⟩; refine Hid.out ?_))
  obtain ⟨p5, c5, rfl⟩ := hi5.1.form
  have HS5 := Lib.hid ((MemS.below hi5.2.2 HS4.out).push hi5.lies)
  have HU5 := Lib.hid hu5
  have RP5 := Lib.hid (HS5.out.blk 0 rfl)
  have HF5 := Lib.hid (back_tab H1.out H2.out HCA.out HCB.out HVA.out HVB.out (by have := HN.out; omega) (by have := HN.out; omega) _ _ _ L5 P1 P2 w5 HU5.out HP1.out HP2.out (HS5.out.at_ 0 rfl) (HS5.out.at_ 1 rfl) (HS5.out.at_ 2 rfl) HS5.out.1.tab HS5.out.1.lt)
  clear hu5 hi5 HF4 RP4 HS4
  refine Lib.hid ?_
  go_upto_region 5 with fail
  go_upto_region 6 with (first
    | (refine wpList_load_row rfl 25 _ rfl w3.heap.size rfl 25 #[.slice q1 P1.length d1, .slice q2 P2.length d2] (0, 0) _ RP5.out Tryd.underlying25 rfl infoP ?_)
    | (go_at_call 12; refine HF5.out.mono ?_; rintro e w6 ⟨v6, L6, rfl, hu6, hi6⟩; refine Hid.out ?_))
  obtain ⟨p6, c6, rfl⟩ := hi6.1.form
  have HS6 := Lib.hid ((MemS.below hi6.2.2 HS5.out).push hi6.lies)
  have HU6 := Lib.hid hu6
  have RP6 := Lib.hid (HS6.out.blk 0 rfl)
  have HF6 := Lib.hid (forth_tab H1.out H2.out HCA.out HCB.out HVA.out HVB.out (by have := HN.out; omega) (by have := HN.out; omega) _ _ _ L6 P1 P2 w6 HU6.out HP1.out HP2.out (HS6.out.at_ 0 rfl) (HS6.out.at_ 2 rfl) (HS6.out.at_ 3 rfl) HS6.out.1.tab HS6.out.1.lt)
  clear hu6 hi6 HF5 RP5 HS5
  refine Lib.hid ?_
  go_upto_region 6 with fail
  go_upto_region 7 with (first
    | (refine wpList_load_row rfl 25 _ rfl w3.heap.size rfl 25 #[.slice q1 P1.length d1, .slice q2 P2.length d2] (0, 0) _ RP6.out Tryd.underlying25 rfl infoP ?_)
    | (go_at_call 11; refine HF6.out.mono ?_; rintro e w7 ⟨v7, L7, rfl, hu7, hi7⟩; refine Hid.out ?_))
  obtain ⟨p7, c7, rfl⟩ := hi7.1.form
  have HS7 := Lib.hid ((MemS.below hi7.2.2 HS6.out).push hi7.lies)
  have HU7 := Lib.hid hu7
  have HD7 := Lib.hid (diff_any _ _ b a (by omega) (by omega) HWB.out HWA.out w7 (HS7.out.at_ 6 rfl) (HS7.out.at_ 5 rfl) HS7.out.1.tab HS7.out.1.lt)
  rw [HUS.out, HKS.out] at HD7
  clear hu7 hi7 HF6 RP6 HS6
  refine Lib.hid ?_
  go_wp2_with (go_at_call 9; refine HD7.out.mono ?_; rintro e w8 ⟨y1, Q1, y2, Q2, rfl, hu1, hu2, hi1, hi2⟩; refine Hid.out ?_)
  obtain ⟨r1, e1, rfl⟩ := hi1.1.form
  obtain ⟨r2, e2, rfl⟩ := hi2.1.form
  have HQ1 := Lib.hid hu1
  have HQ2 := Lib.hid hu2
  have HS8 := Lib.hid (((MemS.below hi1.2.2 HS7.out).push hi2.lies).push hi1.lies)
  have HS9 := Lib.hid ((MemS.below (below1 w8 (.cells #[.slice r1 Q1.length e1, .slice r2 Q2.length e2] 25)) HS8.out).box (Blk.new w8 #[.slice r1 Q1.length e1, .slice r2 Q2.length e2] 25))
  clear hu1 hu2 hi1 hi2 HD7 HS7 HS8
  refine Lib.hid ?_
  go_upto_region 8 with (refine wpList_store_row rfl 25 _ _ rfl w8.heap.size #[.slice r1 Q1.length e1, .slice r2 Q2.length e2] rfl rfl 25 _ (heap_alloc_new _ _) (by kernel_rfl) rfl (by simp [Value.oneCell']) ?_; rw [World.setRow_alloc_new])
  generalize w8.alloc (.cells #[.slice r1 Q1.length e1, .slice r2 Q2.length e2] 25) = W9 at *
  have RP9 := Lib.hid (HS9.out.blk 0 rfl)
  have HF9 := Lib.hid (forth_tab H2.out H1.out HCB.out HCA.out HVB.out HVA.out (by have := HN.out; omega) (by have := HN.out; omega) _ _ _ b Q1 Q2 W9 HKS.out HQ1.out HQ2.out (HS9.out.at_ 8 rfl) (HS9.out.at_ 0 rfl) (HS9.out.at_ 1 rfl) HS9.out.1.tab HS9.out.1.lt)
  go_wp2_with (first
    | (refine wpList_load_row rfl 25 _ rfl w8.heap.size rfl 25 #[.slice r1 Q1.length e1, .slice r2 Q2.length e2] (0, 0) _ RP9.out Tryd.underlying25 rfl infoP ?_)
    | (go_at_call 11; refine HF9.out.mono ?_; rintro e w10 ⟨v10, L10, rfl, hu10, hi10⟩; refine Hid.out ?_))
  obtain ⟨p10, c10, rfl⟩ := hi10.1.form
  have HS10 := Lib.hid ((MemS.below hi10.2.2 HS9.out).push hi10.lies)
  have HU10 := Lib.hid hu10
  have HA10 := Lib.hid (HA.out w10 HS10.out.1)
  clear hu10 hi10 HF9 RP9 HS9 HA
  refine Lib.hid ?_
  go_wp2_with (go_at_call 8; refine HA10.out.mono ?_; rintro e w11 ⟨rfl, hw11⟩; refine Hid.out ?_)
  have HS11 := Lib.hid (MemS.below hw11 HS10.out)
  have HC11 := Lib.hid (rsame_eq _ _ L7 b (by rw [len_u HU7.out]; have := HN.out; omega) HWB.out (HU7.out.trans HKS.out.symm) w11 (HS11.out.at_ 3 rfl) (HS11.out.at_ 9 rfl))
  clear hw11 HA10 HS10
  refine Lib.hid ?_
  go_wp2_with (go_at_call 13; refine HC11.out.mono ?_; rintro e w12 ⟨rfl, hw12⟩; refine Hid.out ?_)
  have HS12 := Lib.hid (MemS.below hw12 HS11.out)
  have HC12 := Lib.hid (rsame_eq _ _ L10 a (by rw [len_u HU10.out]; have := HN.out; omega) HWA.out (HU10.out.trans HUS.out.symm) w12 (HS12.out.at_ 0 rfl) (HS12.out.at_ 8 rfl))
  clear hw12 HC11 HS11
  refine Lib.hid ?_
  go_wp2_with (go_at_call 13; refine HC12.out.mono ?_; rintro e w13 ⟨rfl, hw13⟩)
  go_ret
  exact ⟨rfl, (HS12.out.1.below hw13).kept⟩
theorem undoTwice_any (v1 : Value) (a : List Rm) (hwa : WfRL a) (ha1 : a.length ≤ 140737488355328) (v2 : Value) (b : List Rm) (hwb : WfRL b) (hb1 : b.length ≤ 140737488355328)
    (w0 : World) (ha : RLies v1 a w0) (hb : RLies v2 b w0) (ht : Tab w0) (hz : 0 < w0.heap.size) :
    Calls Tryd.prog 7 #[v1, v2] w0 fun e w' => e = .returned (.bool true) ∧ Below w0.heap.size w0 w' :=
  undoTwice_can v1 v2 (a.map canR) (b.map canR) hwa.can hwb.can (canL_map a) (canL_map b) (by rw [map_can_len]; exact ha1) (by rw [map_can_len]; exact hb1) w0 ha.can hb.can ht hz
end Go.Proofs.YthnfaccenlkedaaDoor
