/-
  The walk of the law UndoDiffs.
-/
import Derived.Test.YthnfaccenlkedaaDoorUndLaw
namespace Go.Proofs.YthnfaccenlkedaaDoor
open Go.RowKit

set_option maxRecDepth 100000 in
set_option maxHeartbeats 8000000 in
theorem undoDiffs_can (v1 v2 : Value) (a b : List Rm) (hwa : WfRL a) (hwb : WfRL b) (hca : CanL (a.map (·.u))) (hcb : CanL (b.map (·.u))) (ha1 : a.length ≤ 140737488355328) (hb1 : b.length ≤ 140737488355328)
    (w0 : World) (ha : RLies v1 a w0) (hb : RLies v2 b w0) (ht : Tab w0) (hz : 0 < w0.heap.size) :
    Calls Tryd.prog 3 #[v1, v2] w0 fun e w' => e = .returned (.bool true) ∧ Below w0.heap.size w0 w' := by
  obtain ⟨p, cap, rfl⟩ := ha.1.form
  obtain ⟨pb, capb, rfl⟩ := hb.1.form
  have HA := Lib.hid (fun (W : World) (hS : Env w0 W) => uanswers W hS.tab hS.lt)
  have HS := Lib.hid (show MemS w0 [] [(.slice p a.length cap, a), (.slice pb b.length capb, b)] w0 from ⟨Env.start ht hz, fun x hx => (by cases hx), fun x hx => by
    simp only [List.mem_cons, List.not_mem_nil, or_false] at hx
    rcases hx with rfl | rfl
    · exact ha
    · exact hb⟩)
  have HWA := Lib.hid hwa
  have HWB := Lib.hid hwb
  clear ht ha hb hwa hwb
  by_cases hn : 40 < a.length
  · have hnI : (40 : Int) < (a.length : Int) := by omega
    go_enter Tryd.func3, Tryd.ntmps3
    go_wp2_with (go_at_call 8; refine (HA.out _ HS.out.1).mono ?_; rintro e w1 ⟨rfl, hw1⟩)
    go_ret
    exact ⟨rfl, (HS.out.1.below hw1).kept⟩
  have hnI : ¬ (40 : Int) < (a.length : Int) := by omega
  by_cases hn2 : 40 < b.length
  · have hbI : (40 : Int) < (b.length : Int) := by omega
    go_enter Tryd.func3, Tryd.ntmps3
    go_wp2_with (go_at_call 8; refine (HA.out _ HS.out.1).mono ?_; rintro e w1 ⟨rfl, hw1⟩)
    go_ret
    exact ⟨rfl, (HS.out.1.below hw1).kept⟩
  have hbI : ¬ (40 : Int) < (b.length : Int) := by omega
  obtain ⟨us, hus⟩ : ∃ us, us = a.map (·.u) := ⟨_, rfl⟩
  obtain ⟨ks, hks⟩ : ∃ ks, ks = b.map (·.u) := ⟨_, rfl⟩
  have HD0 := Lib.hid (diff_any _ _ a b (by omega) (by omega) HWA.out HWB.out w0 (HS.out.at_ 0 rfl) (HS.out.at_ 1 rfl) HS.out.1.tab HS.out.1.lt)
  rw [← hus, ← hks] at HD0
  rw [← hus] at hca
  rw [← hks] at hcb
  have HUS := Lib.hid hus.symm
  have HKS := Lib.hid hks.symm
  have HN := Lib.hid (show us.length ≤ 40 ∧ ks.length ≤ 40 by rw [hus, hks, List.length_map, List.length_map]; omega)
  have HCA := Lib.hid hca
  have HCB := Lib.hid hcb
  have HVA := Lib.hid (show WfUL us by rw [hus]; exact WfUL.of HWA.out)
  have HVB := Lib.hid (show WfUL ks by rw [hks]; exact WfUL.of HWB.out)
  clear hus hks hca hcb
  go_enter Tryd.func3, Tryd.ntmps3
  go_wp2_with (go_at_call 9; refine HD0.out.mono ?_; rintro e w3 ⟨x1, P1, x2, P2, rfl, hu1, hu2, hi1, hi2⟩; refine Hid.out ?_)
  obtain ⟨q1, d1, rfl⟩ := hi1.1.form
  obtain ⟨q2, d2, rfl⟩ := hi2.1.form
  have HP1 := Lib.hid hu1
  have HP2 := Lib.hid hu2
  have HS3 := Lib.hid (((MemS.below hi1.2.2 HS.out).push hi2.lies).push hi1.lies)
  have HS4 := Lib.hid ((MemS.below (below1 w3 (.cells #[.slice q1 P1.length d1, .slice q2 P2.length d2] 25)) HS3.out).box (Blk.new w3 #[.slice q1 P1.length d1, .slice q2 P2.length d2] 25))
  clear hu1 hu2 hi1 hi2 HD0 HS HS3
  refine Lib.hid ?_
  go_upto_region 4 with (refine wpList_store_row rfl 25 _ _ rfl w3.heap.size #[.slice q1 P1.length d1, .slice q2 P2.length d2] rfl rfl 25 _ (heap_alloc_new _ _) (by kernel_rfl) rfl (by simp [Value.oneCell']) ?_; rw [World.setRow_alloc_new])
  generalize w3.alloc (.cells #[.slice q1 P1.length d1, .slice q2 P2.length d2] 25) = W4 at *
  have HT1 := Lib.hid (rtable_b _ a (by omega) HWA.out W4 (HS4.out.at_ 2 rfl))
  rw [tabB_tabU, HUS.out] at HT1
  obtain ⟨n1, hn1⟩ : ∃ n, n = P1.length := ⟨_, rfl⟩
  obtain ⟨n2, hn2⟩ : ∃ n, n = P2.length := ⟨_, rfl⟩
  have HN1 := Lib.hid hn1
  have HN2 := Lib.hid hn2
  clear hn1 hn2
  cases h1 : tabU us
  · rw [h1] at HT1
    obtain rfl : P1 = [] := map_nil (HP1.out.trans (difG_no1 h1))
    obtain rfl : P2 = [] := map_nil (HP2.out.trans (difG_no2 h1))
    clear h1
    go_wp2_with (go_at_call 10; refine HT1.out.mono ?_; rintro e w5 ⟨rfl, hw5⟩; refine Hid.out ?_)
    have HS5 := Lib.hid (MemS.below hw5 HS4.out)
    have HA5 := Lib.hid (HA.out w5 HS5.out.1)
    clear hw5 HT1 HS4 HA
    refine Lib.hid ?_
    go_wp2_with (go_at_call 8; refine HA5.out.mono ?_; rintro e w6 ⟨rfl, hw6⟩; refine Hid.out ?_)
    have HS6 := Lib.hid (MemS.below hw6 HS5.out)
    have k0 : w6.cell? ⟨w3.heap.size, 0, none⟩ = some (.slice q1 0 d1) := HS6.out.cell0 0 rfl
    have k1 : w6.cell? ⟨w3.heap.size, 1, none⟩ = some (.slice q2 0 d2) := HS6.out.cell1 0 rfl
    clear hw6 HA5 HS5
    refine Lib.hid ?_
    go_wp2_with fail
    go_ret
    exact ⟨rfl, HS6.out.1.kept⟩
  rw [h1] at HT1
  have H1 := Lib.hid h1
  clear h1
  go_wp2_with (go_at_call 10; refine HT1.out.mono ?_; rintro e w5 ⟨rfl, hw5⟩; refine Hid.out ?_)
  have HS5 := Lib.hid (MemS.below hw5 HS4.out)
  have HT2 := Lib.hid (rtable_b _ b (by omega) HWB.out w5 (HS5.out.at_ 3 rfl))
  rw [tabB_tabU, HKS.out] at HT2
  clear hw5 HT1 HS4
  cases h2 : tabU ks
  · rw [h2] at HT2
    obtain rfl : P1 = [] := map_nil (HP1.out.trans (difG_no2 h2))
    obtain rfl : P2 = [] := map_nil (HP2.out.trans (difG_no1 h2))
    clear h2
    refine Lib.hid ?_
    go_wp2_with (go_at_call 10; refine HT2.out.mono ?_; rintro e w6 ⟨rfl, hw6⟩; refine Hid.out ?_)
    have HS6 := Lib.hid (MemS.below hw6 HS5.out)
    have HA6 := Lib.hid (HA.out w6 HS6.out.1)
    clear hw6 HT2 HS5 HA
    refine Lib.hid ?_
    go_wp2_with (go_at_call 8; refine HA6.out.mono ?_; rintro e w7 ⟨rfl, hw7⟩; refine Hid.out ?_)
    have HS7 := Lib.hid (MemS.below hw7 HS6.out)
    have k0 : w7.cell? ⟨w3.heap.size, 0, none⟩ = some (.slice q1 0 d1) := HS7.out.cell0 0 rfl
    have k1 : w7.cell? ⟨w3.heap.size, 1, none⟩ = some (.slice q2 0 d2) := HS7.out.cell1 0 rfl
    clear hw7 HA6 HS6
    refine Lib.hid ?_
    go_wp2_with fail
    go_ret
    exact ⟨rfl, HS7.out.1.kept⟩
  rw [h2] at HT2
  have H2 := Lib.hid h2
  clear h2
  refine Lib.hid ?_
  go_wp2_with (go_at_call 10; refine HT2.out.mono ?_; rintro e w6 ⟨rfl, hw6⟩; refine Hid.out ?_)
  have HS6 := Lib.hid (MemS.below hw6 HS5.out)
  have RP6 := Lib.hid (HS6.out.blk 0 rfl)
  have HF6 := Lib.hid (forth_tab H1.out H2.out HCA.out HCB.out HVA.out HVB.out (by have := HN.out; omega) (by have := HN.out; omega) _ _ _ a P1 P2 w6 HUS.out HP1.out HP2.out (HS6.out.at_ 2 rfl) (HS6.out.at_ 0 rfl) (HS6.out.at_ 1 rfl) HS6.out.1.tab HS6.out.1.lt)
  clear hw6 HT2 HS5
  refine Lib.hid ?_
  go_wp2_with (first
    | (refine wpList_load_row rfl 25 _ rfl w3.heap.size rfl 25 #[.slice q1 P1.length d1, .slice q2 P2.length d2] (0, 0) _ RP6.out Tryd.underlying25 rfl infoP ?_)
    | (go_at_call 11; refine HF6.out.mono ?_; rintro e w7 ⟨v7, L5, rfl, hu7, hi7⟩; refine Hid.out ?_))
  obtain ⟨p7, c7, rfl⟩ := hi7.1.form
  have HS7 := Lib.hid ((MemS.below hi7.2.2 HS6.out).push hi7.lies)
  have HU5 := Lib.hid hu7
  have RP7 := Lib.hid (HS7.out.blk 0 rfl)
  have HF7 := Lib.hid (back_tab H1.out H2.out HCA.out HCB.out HVA.out HVB.out (by have := HN.out; omega) (by have := HN.out; omega) _ _ _ b P1 P2 w7 HKS.out HP1.out HP2.out (HS7.out.at_ 4 rfl) (HS7.out.at_ 1 rfl) (HS7.out.at_ 2 rfl) HS7.out.1.tab HS7.out.1.lt)
  clear hu7 hi7 HF6 RP6 HS6
  refine Lib.hid ?_
  go_upto_region 7 with fail
  go_upto_region 8 with (first
    | (refine wpList_load_row rfl 25 _ rfl w3.heap.size rfl 25 #[.slice q1 P1.length d1, .slice q2 P2.length d2] (0, 0) _ RP7.out Tryd.underlying25 rfl infoP ?_)
    | (go_at_call 12; refine HF7.out.mono ?_; rintro e w8 ⟨v8, L7, rfl, hu8, hi8⟩; refine Hid.out ?_))
  obtain ⟨p8, c8, rfl⟩ := hi8.1.form
  have HS8 := Lib.hid ((MemS.below hi8.2.2 HS7.out).push hi8.lies)
  have HU7 := Lib.hid hu8
  clear hu8 hi8 HF7 RP7 HS7 HN1 HN2
  refine Lib.hid ?_
  go_upto_region 8 with fail
  refine wp_region_held_drew (S := MemS w0 [(w3.heap.size, #[.slice q1 P1.length d1, .slice q2 P2.length d2])] [(.slice p8 L7.length c8, L7), (.slice p7 L5.length c7, L5), (.slice q1 P1.length d1, P1), (.slice q2 P2.length d2, P2), (.slice p a.length cap, a), (.slice pb b.length capb, b)]) (by kernel_rfl) (MemS.below (Below.refl _ _).drew HS8.out) (fun hS => ?_)
  clear HS8
  generalize w8.drew = W8 at *
  refine seqCall 0 rfl (by kernel_rfl) rfl (fun K hK => ?_)
  go_simp
  refine (HA.out _ hS.1).mono ?_
  rintro e w8 ⟨rfl, hw8⟩
  refine hK.out _ _ (MemS.below hw8 hS) (fun hS => ?_)
  clear hK K hw8
  try simp only [Act.put, List.setIfInBounds_toArray, List.set_cons_zero, List.set_cons_succ]
  refine seqRead 1 (v := _) rfl (by kernel_rfl) (by kernel_rfl) (by kernel_rfl) (fun _ _ _ h => h) rfl (fun w hSw => by go_simp <;> with_reducible rfl) hS ?_
  try simp only [Act.put, List.setIfInBounds_toArray, List.set_cons_zero, List.set_cons_succ]
  refine seqRead 2 (v := _) rfl (by kernel_rfl) (by kernel_rfl) (by kernel_rfl) (fun _ _ _ h => h) rfl (fun w hSw => by go_simp <;> with_reducible rfl) hS ?_
  try simp only [Act.put, List.setIfInBounds_toArray, List.set_cons_zero, List.set_cons_succ]
  refine seqRead 3 (v := _) rfl (by kernel_rfl) (by kernel_rfl) (by kernel_rfl) (fun _ _ _ h => h) rfl (fun w hSw => by have hc := hSw.cell0 0 rfl; go_simp <;> with_reducible rfl) hS ?_
  try simp only [Act.put, List.setIfInBounds_toArray, List.set_cons_zero, List.set_cons_succ]
  refine seqRead 4 (v := _) rfl (by kernel_rfl) (by kernel_rfl) (by kernel_rfl) (fun _ _ _ h => h) rfl (fun w hSw => by go_simp <;> with_reducible rfl) hS ?_
  try simp only [Act.put, List.setIfInBounds_toArray, List.set_cons_zero, List.set_cons_succ]
  refine seqRead 5 (v := _) rfl (by kernel_rfl) (by kernel_rfl) (by kernel_rfl) (fun _ _ _ h => h) rfl (fun w hSw => by go_simp <;> with_reducible rfl) hS ?_
  try simp only [Act.put, List.setIfInBounds_toArray, List.set_cons_zero, List.set_cons_succ]
  refine seqCall 6 rfl (by kernel_rfl) rfl (fun K hK => ?_)
  go_simp
  refine (ralone_any _ _ a b (by omega) (by omega) HWB.out _ (hS.at_ 4 rfl) (hS.at_ 5 rfl)).mono ?_
  rintro e wa6 ⟨va6, rfl, ho6, hwa6⟩
  have HSn := MemS.below hwa6 hS
  have HAl6 := Lib.hid (show RLies va6 (a.filter fun r => !eqB b r) wa6 from ⟨ho6.lies okR, fun r hr => (HSn.at_ 4 rfl : RLies _ a wa6).2 r (List.mem_filter.1 hr).1⟩)
  refine hK.out _ _ HSn (fun hS => ?_)
  clear hK K ho6 hwa6 HSn
  try simp only [Act.put, List.setIfInBounds_toArray, List.set_cons_zero, List.set_cons_succ]
  refine seqCall 7 rfl (by kernel_rfl) rfl (fun K hK => ?_)
  go_simp
  refine (rsame_eq _ _ P1 (a.filter fun r => !eqB b r) (by rw [len_u HP1.out]; have := HN.out; have := difG_len us ks; omega) (fun r hr => HWA.out r (List.mem_filter.1 hr).1) (by rw [HP1.out, filt_alone, difG_yes H1.out H2.out, HUS.out, HKS.out]) _ (hS.at_ 2 rfl) HAl6.out).mono ?_
  rintro e ws6 ⟨rfl, hws6⟩
  refine hK.out _ _ (MemS.below hws6 hS) (fun hS => ?_)
  clear hK K hws6 HAl6
  try simp only [Act.put, List.setIfInBounds_toArray, List.set_cons_zero, List.set_cons_succ]
  refine seqRead 8 (v := _) rfl (by kernel_rfl) (by kernel_rfl) (by kernel_rfl) (fun _ _ _ h => h) rfl (fun w hSw => by go_simp <;> with_reducible rfl) hS ?_
  try simp only [Act.put, List.setIfInBounds_toArray, List.set_cons_zero, List.set_cons_succ]
  refine seqRead 9 (v := _) rfl (by kernel_rfl) (by kernel_rfl) (by kernel_rfl) (fun _ _ _ h => h) rfl (fun w hSw => by go_simp <;> with_reducible rfl) hS ?_
  try simp only [Act.put, List.setIfInBounds_toArray, List.set_cons_zero, List.set_cons_succ]
  refine seqRead 10 (v := _) rfl (by kernel_rfl) (by kernel_rfl) (by kernel_rfl) (fun _ _ _ h => h) rfl (fun w hSw => by go_simp <;> with_reducible rfl) hS ?_
  try simp only [Act.put, List.setIfInBounds_toArray, List.set_cons_zero, List.set_cons_succ]
  refine seqRead 11 (v := _) rfl (by kernel_rfl) (by kernel_rfl) (by kernel_rfl) (fun _ _ _ h => h) rfl (fun w hSw => by have hc := hSw.cell1 0 rfl; go_simp <;> with_reducible rfl) hS ?_
  try simp only [Act.put, List.setIfInBounds_toArray, List.set_cons_zero, List.set_cons_succ]
  refine seqRead 12 (v := _) rfl (by kernel_rfl) (by kernel_rfl) (by kernel_rfl) (fun _ _ _ h => h) rfl (fun w hSw => by go_simp <;> with_reducible rfl) hS ?_
  try simp only [Act.put, List.setIfInBounds_toArray, List.set_cons_zero, List.set_cons_succ]
  refine seqRead 13 (v := _) rfl (by kernel_rfl) (by kernel_rfl) (by kernel_rfl) (fun _ _ _ h => h) rfl (fun w hSw => by go_simp <;> with_reducible rfl) hS ?_
  try simp only [Act.put, List.setIfInBounds_toArray, List.set_cons_zero, List.set_cons_succ]
  refine seqCall 14 rfl (by kernel_rfl) rfl (fun K hK => ?_)
  go_simp
  refine (ralone_any _ _ b a (by omega) (by omega) HWA.out _ (hS.at_ 5 rfl) (hS.at_ 4 rfl)).mono ?_
  rintro e wa14 ⟨va14, rfl, ho14, hwa14⟩
  have HSn := MemS.below hwa14 hS
  have HAl14 := Lib.hid (show RLies va14 (b.filter fun r => !eqB a r) wa14 from ⟨ho14.lies okR, fun r hr => (HSn.at_ 5 rfl : RLies _ b wa14).2 r (List.mem_filter.1 hr).1⟩)
  refine hK.out _ _ HSn (fun hS => ?_)
  clear hK K ho14 hwa14 HSn
  try simp only [Act.put, List.setIfInBounds_toArray, List.set_cons_zero, List.set_cons_succ]
  refine seqCall 15 rfl (by kernel_rfl) rfl (fun K hK => ?_)
  go_simp
  refine (rsame_eq _ _ P2 (b.filter fun r => !eqB a r) (by rw [len_u HP2.out]; have := HN.out; have := difG_len ks us; omega) (fun r hr => HWB.out r (List.mem_filter.1 hr).1) (by rw [HP2.out, filt_alone, difG_yes H2.out H1.out, HUS.out, HKS.out]) _ (hS.at_ 3 rfl) HAl14.out).mono ?_
  rintro e ws14 ⟨rfl, hws14⟩
  refine hK.out _ _ (MemS.below hws14 hS) (fun hS => ?_)
  clear hK K hws14 HAl14
  try simp only [Act.put, List.setIfInBounds_toArray, List.set_cons_zero, List.set_cons_succ]
  refine seqRead 16 (v := _) rfl (by kernel_rfl) (by kernel_rfl) (by kernel_rfl) (fun _ _ _ h => h) rfl (fun w hSw => by go_simp <;> with_reducible rfl) hS ?_
  try simp only [Act.put, List.setIfInBounds_toArray, List.set_cons_zero, List.set_cons_succ]
  refine seqRead 17 (v := _) rfl (by kernel_rfl) (by kernel_rfl) (by kernel_rfl) (fun _ _ _ h => h) rfl (fun w hSw => by go_simp <;> with_reducible rfl) hS ?_
  try simp only [Act.put, List.setIfInBounds_toArray, List.set_cons_zero, List.set_cons_succ]
  refine seqRead 18 (v := _) rfl (by kernel_rfl) (by kernel_rfl) (by kernel_rfl) (fun _ _ _ h => h) rfl (fun w hSw => by go_simp <;> with_reducible rfl) hS ?_
  try simp only [Act.put, List.setIfInBounds_toArray, List.set_cons_zero, List.set_cons_succ]
  refine seqRead 19 (v := _) rfl (by kernel_rfl) (by kernel_rfl) (by kernel_rfl) (fun _ _ _ h => h) rfl (fun w hSw => by go_simp <;> with_reducible rfl) hS ?_
  try simp only [Act.put, List.setIfInBounds_toArray, List.set_cons_zero, List.set_cons_succ]
  refine seqRead 20 (v := _) rfl (by kernel_rfl) (by kernel_rfl) (by kernel_rfl) (fun _ _ _ h => h) rfl (fun w hSw => by go_simp <;> with_reducible rfl) hS ?_
  try simp only [Act.put, List.setIfInBounds_toArray, List.set_cons_zero, List.set_cons_succ]
  refine seqRead 21 (v := _) rfl (by kernel_rfl) (by kernel_rfl) (by kernel_rfl) (fun _ _ _ h => h) rfl (fun w hSw => by go_simp <;> with_reducible rfl) hS ?_
  try simp only [Act.put, List.setIfInBounds_toArray, List.set_cons_zero, List.set_cons_succ]
  refine seqRead 22 (v := _) rfl (by kernel_rfl) (by kernel_rfl) (by kernel_rfl) (fun _ _ _ h => h) rfl (fun w hSw => by go_simp <;> with_reducible rfl) hS ?_
  try simp only [Act.put, List.setIfInBounds_toArray, List.set_cons_zero, List.set_cons_succ]
  refine seqRead 23 (v := _) rfl (by kernel_rfl) (by kernel_rfl) (by kernel_rfl) (fun _ _ _ h => h) rfl (fun w hSw => by go_simp <;> with_reducible rfl) hS ?_
  try simp only [Act.put, List.setIfInBounds_toArray, List.set_cons_zero, List.set_cons_succ]
  refine seqRead 24 (v := _) rfl (by kernel_rfl) (by kernel_rfl) (by kernel_rfl) (fun _ _ _ h => h) rfl (fun w hSw => by go_simp <;> with_reducible rfl) hS ?_
  try simp only [Act.put, List.setIfInBounds_toArray, List.set_cons_zero, List.set_cons_succ]
  refine seqRead 25 (v := _) rfl (by kernel_rfl) (by kernel_rfl) (by kernel_rfl) (fun _ _ _ h => h) rfl (fun w hSw => by go_simp <;> with_reducible rfl) hS ?_
  try simp only [Act.put, List.setIfInBounds_toArray, List.set_cons_zero, List.set_cons_succ]
  refine seqRead 26 (v := _) rfl (by kernel_rfl) (by kernel_rfl) (by kernel_rfl) (fun _ _ _ h => h) rfl (fun w hSw => by go_simp <;> with_reducible rfl) hS ?_
  try simp only [Act.put, List.setIfInBounds_toArray, List.set_cons_zero, List.set_cons_succ]
  refine seqRead 27 (v := _) rfl (by kernel_rfl) (by kernel_rfl) (by kernel_rfl) (fun _ _ _ h => h) rfl (fun w hSw => by go_simp <;> with_reducible rfl) hS ?_
  try simp only [Act.put, List.setIfInBounds_toArray, List.set_cons_zero, List.set_cons_succ]
  refine seqCall 28 rfl (by kernel_rfl) rfl (fun K hK => ?_)
  go_simp
  refine (rsame_eq _ _ L5 b (by rw [len_u HU5.out]; have := HN.out; omega) HWB.out (HU5.out.trans HKS.out.symm) _ (hS.at_ 1 rfl) (hS.at_ 5 rfl)).mono ?_
  rintro e ws28 ⟨rfl, hws28⟩
  refine hK.out _ _ (MemS.below hws28 hS) (fun hS => ?_)
  clear hK K hws28
  try simp only [Act.put, List.setIfInBounds_toArray, List.set_cons_zero, List.set_cons_succ]
  refine seqRead 29 (v := _) rfl (by kernel_rfl) (by kernel_rfl) (by kernel_rfl) (fun _ _ _ h => h) rfl (fun w hSw => by go_simp <;> with_reducible rfl) hS ?_
  try simp only [Act.put, List.setIfInBounds_toArray, List.set_cons_zero, List.set_cons_succ]
  refine seqRead 30 (v := _) rfl (by kernel_rfl) (by kernel_rfl) (by kernel_rfl) (fun _ _ _ h => h) rfl (fun w hSw => by go_simp <;> with_reducible rfl) hS ?_
  try simp only [Act.put, List.setIfInBounds_toArray, List.set_cons_zero, List.set_cons_succ]
  refine seqRead 31 (v := _) rfl (by kernel_rfl) (by kernel_rfl) (by kernel_rfl) (fun _ _ _ h => h) rfl (fun w hSw => by go_simp <;> with_reducible rfl) hS ?_
  try simp only [Act.put, List.setIfInBounds_toArray, List.set_cons_zero, List.set_cons_succ]
  refine seqRead 32 (v := _) rfl (by kernel_rfl) (by kernel_rfl) (by kernel_rfl) (fun _ _ _ h => h) rfl (fun w hSw => by go_simp <;> with_reducible rfl) hS ?_
  try simp only [Act.put, List.setIfInBounds_toArray, List.set_cons_zero, List.set_cons_succ]
  refine seqCall 33 rfl (by kernel_rfl) rfl (fun K hK => ?_)
  go_simp
  refine (rsame_eq _ _ L7 a (by rw [len_u HU7.out]; have := HN.out; omega) HWA.out (HU7.out.trans HUS.out.symm) _ (hS.at_ 0 rfl) (hS.at_ 4 rfl)).mono ?_
  rintro e ws33 ⟨rfl, hws33⟩
  refine hK.out _ _ (MemS.below hws33 hS) (fun hS => ?_)
  clear hK K hws33
  try simp only [Act.put, List.setIfInBounds_toArray, List.set_cons_zero, List.set_cons_succ]
  refine seqRead 34 (v := _) rfl (by kernel_rfl) (by kernel_rfl) (by kernel_rfl) (fun _ _ _ h => h) rfl (fun w hSw => by go_simp <;> with_reducible rfl) hS ?_
  try simp only [Act.put, List.setIfInBounds_toArray, List.set_cons_zero, List.set_cons_succ]
  refine seqRead 35 (v := _) rfl (by kernel_rfl) (by kernel_rfl) (by kernel_rfl) (fun _ _ _ h => h) rfl (fun w hSw => by go_simp <;> with_reducible rfl) hS ?_
  try simp only [Act.put, List.setIfInBounds_toArray, List.set_cons_zero, List.set_cons_succ]
  refine seqDone (by kernel_rfl) ?_
  have HE8 := Lib.hid hS.1
  clear hS
  go_wp2_with fail
  go_ret
  exact ⟨rfl, HE8.out.kept⟩
theorem undoDiffs_any (v1 : Value) (a : List Rm) (hwa : WfRL a) (ha1 : a.length ≤ 140737488355328) (v2 : Value) (b : List Rm) (hwb : WfRL b) (hb1 : b.length ≤ 140737488355328)
    (w0 : World) (ha : RLies v1 a w0) (hb : RLies v2 b w0) (ht : Tab w0) (hz : 0 < w0.heap.size) :
    Calls Tryd.prog 3 #[v1, v2] w0 fun e w' => e = .returned (.bool true) ∧ Below w0.heap.size w0 w' :=
  undoDiffs_can v1 v2 (a.map canR) (b.map canR) hwa.can hwb.can (canL_map a) (canL_map b) (by rw [map_can_len]; exact ha1) (by rw [map_can_len]; exact hb1) w0 ha.can hb.can ht hz
end Go.Proofs.YthnfaccenlkedaaDoor
