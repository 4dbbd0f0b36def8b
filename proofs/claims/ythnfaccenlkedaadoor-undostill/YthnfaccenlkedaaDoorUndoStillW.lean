/-
  The walk of the law UndoStill.
-/
import Derived.Test.YthnfaccenlkedaaDoorUndLaw
namespace Go.Proofs.YthnfaccenlkedaaDoor
open Go.RowKit

/-- the list, what Back and Forth gave, the patch in its box -/
def StS (w0 : World) (v : Value) (l : List Rm) (v1 : Value) (L1 : List Rm) (v2 : Value) (L2 : List Rm) (Bp : Nat) (ps : Array Value) (W : World) : Prop := RLies v l W ∧ RLies v1 L1 W ∧ RLies v2 L2 W ∧ Env w0 W ∧ Blk Bp ps 25 W
theorem StS.below {w0 : World} {v v1 v2 : Value} {l L1 L2 : List Rm} {Bp : Nat} {ps : Array Value} {W W' : World} (hb : Below W.heap.size W W') (h : StS w0 v l v1 L1 v2 L2 Bp ps W) : StS w0 v l v1 L1 v2 L2 Bp ps W' := ⟨h.1.below hb, h.2.1.below hb, h.2.2.1.below hb, h.2.2.2.1.below hb, h.2.2.2.2.below hb⟩
set_option maxRecDepth 100000 in
set_option maxHeartbeats 4000000 in
theorem undoStill_any (v : Value) (l : List Rm) (hw : WfRL l) (hlen : l.length ≤ 140737488355328) (w0 : World) (hl : RLies v l w0) (ht : Tab w0) (hz : 0 < w0.heap.size) :
    Calls Tryd.prog 6 #[v] w0 fun e w' => e = .returned (.bool true) ∧ Below w0.heap.size w0 w' := by
  obtain ⟨p, cap, rfl⟩ := hl.1.form
  have HE := Lib.hid (Env.start ht hz)
  have HA := Lib.hid (fun (W : World) (hS : Env w0 W) => uanswers W hS.tab hS.lt)
  have HL := Lib.hid hl
  have HW := Lib.hid hw
  clear ht hl hw
  by_cases hn : 40 < l.length
  · have hnI : (40 : Int) < (l.length : Int) := by omega
    go_enter Tryd.func6, Tryd.ntmps6
    go_wp2_with (go_at_call 8; refine (HA.out _ HE.out).mono ?_; rintro e w1 ⟨rfl, hw1⟩)
    go_ret
    exact ⟨rfl, (HE.out.below hw1).kept⟩
  have hnI : ¬ (40 : Int) < (l.length : Int) := by omega
  have hl40 : l.length ≤ 40 := by omega
  have HD := Lib.hid (diff_any _ _ l l (by omega) (by omega) HW.out HW.out w0 HL.out HL.out HE.out.tab HE.out.lt)
  obtain ⟨us, hus⟩ : ∃ us, us = l.map (·.u) := ⟨_, rfl⟩
  rw [← hus] at HD
  have HUS := Lib.hid hus
  obtain ⟨k, hk⟩ : ∃ k, k = swapE us [] [] := ⟨_, rfl⟩
  obtain ⟨ks, hks⟩ : ∃ ks, ks = swapV us [] [] := ⟨_, rfl⟩
  have HK := Lib.hid hk
  have HKS := Lib.hid hks
  have HB := Lib.hid (fun (W : World) (hS : Env w0 W) => (back_any (.slice p l.length cap) (.slice none 0 0) (.slice none 0 0) l [] [] (by omega) (by decide) (by decide) HW.out (fun r hr => (by cases hr)) (fun r hr => (by cases hr)) W (HL.out.below hS.kept) (rlies_nil W) (rlies_nil W) hS.tab hS.lt).mono fun e w' h =>
    SwR.of (gs := []) (cs := []) HK.out HKS.out (by rw [HUS.out]; exact h))
  have HF := Lib.hid (fun (W : World) (hS : Env w0 W) => (forth_any (.slice p l.length cap) (.slice none 0 0) (.slice none 0 0) l [] [] (by omega) (by decide) (by decide) HW.out (fun r hr => (by cases hr)) (fun r hr => (by cases hr)) W (HL.out.below hS.kept) (rlies_nil W) (rlies_nil W) hS.tab hS.lt).mono fun e w' h =>
    SwR.of (gs := []) (cs := []) HK.out HKS.out (by rw [HUS.out]; exact h))
  clear hus hk hks hn
  go_enter Tryd.func6, Tryd.ntmps6
  go_wp2_with (go_at_call 9; refine HD.out.mono ?_; rintro e w1 ⟨x1, P1, x2, P2, rfl, hu1, hu2, hi1, hi2⟩; refine Hid.out ?_)
  obtain ⟨q1, d1, rfl⟩ := hi1.1.formN (n := 0) (by rw [map_nil (hu1.trans (difG_self us))]; rfl)
  obtain ⟨q2, d2, rfl⟩ := hi2.1.formN (n := 0) (by rw [map_nil (hu2.trans (difG_self us))]; rfl)
  have RP := Lib.hid (Blk.new w1 #[.slice q1 0 d1, .slice q2 0 d2] 25)
  have HE1 := Lib.hid ((HE.out.below hi1.2.2).alloc (.cells #[.slice q1 0 d1, .slice q2 0 d2] 25))
  clear hu1 hu2 hi1 hi2 HD
  refine Lib.hid ?_
  go_upto_region 4 with (refine wpList_store_row rfl 25 _ _ rfl w1.heap.size #[.slice q1 0 d1, .slice q2 0 d2] rfl rfl 25 _ (heap_alloc_new _ _) (by kernel_rfl) rfl (by simp [Value.oneCell']) ?_; rw [World.setRow_alloc_new])
  generalize w1.alloc (.cells #[.slice q1 0 d1, .slice q2 0 d2] 25) = W at *
  have HB1 := Lib.hid (HB.out W HE1.out)
  clear HB
  go_wp2_with (first
    | (refine buildP0 rfl rfl ?_)
    | (go_at_call 12; refine HB1.out.mono ?_; rintro e w2 ⟨v1, L1, rfl, hu1, hi1⟩; refine Hid.out ?_))
  have HE2 := Lib.hid (HE1.out.below hi1.2.2)
  have RP2 := Lib.hid (RP.out.below hi1.2.2)
  have HR2 := Lib.hid hi1.lies
  have HU1 := Lib.hid hu1
  have HF2 := Lib.hid (HF.out w2 HE2.out)
  obtain ⟨p1, c1, rfl⟩ := hi1.1.form
  clear hu1 hi1 HB1 HF RP HE1
  refine Lib.hid ?_
  go_wp2_with (first
    | (refine buildP0 rfl rfl ?_)
    | (go_at_call 11; refine HF2.out.mono ?_; rintro e w3 ⟨v2, L2, rfl, hu2, hi2⟩; refine Hid.out ?_))
  obtain ⟨p2, c2, rfl⟩ := hi2.1.form
  have HS3 := Lib.hid (show StS w0 (.slice p l.length cap) l (.slice p1 L1.length c1) L1 (.slice p2 L2.length c2) L2 w1.heap.size #[.slice q1 0 d1, .slice q2 0 d2] w3 from
    ⟨HL.out.below (HE2.out.below hi2.2.2).kept, HR2.out.below hi2.2.2, hi2.lies, HE2.out.below hi2.2.2, RP2.out.below hi2.2.2⟩)
  have HU2 := Lib.hid hu2
  have HT := Lib.hid (rtable_b _ l (by omega) HW.out w3 HS3.out.1)
  rw [tabB_tabU, ← HUS.out] at HT
  clear hu2 hi2 HF2 RP2 HR2 HE2
  refine Lib.hid ?_
  cases htb : tabU us
  · rw [htb] at HT
    have e1 := beqT (HK.out.trans (still_no htb [] []))
    clear htb
    go_wp2_with (go_at_call 10; refine HT.out.mono ?_; rintro e w4 ⟨rfl, hw4⟩; refine Hid.out ?_)
    have HE4 := Lib.hid (HS3.out.2.2.2.1.below hw4)
    have HA4 := Lib.hid (HA.out w4 HE4.out)
    clear hw4 HT HS3 HA
    refine Lib.hid ?_
    go_wp2_with (go_at_call 8; refine HA4.out.mono ?_; rintro e w5 ⟨rfl, hw5⟩)
    go_ret
    exact ⟨rfl, (HE4.out.below hw5).kept⟩
  · rw [htb] at HT
    have h0 := still_swap htb
    have e1 := beqT (HK.out.trans h0.1)
    have HV := Lib.hid (show ks = l.map (·.u) by rw [HKS.out, swapV_ok h0.1, h0.2, HUS.out])
    have HL1 := Lib.hid (show L1.length ≤ 1000000 by have := congrArg List.length (HU1.out.trans HV.out); simp only [List.length_map] at this; omega)
    have HL2 := Lib.hid (show L2.length ≤ 1000000 by have := congrArg List.length (HU2.out.trans HV.out); simp only [List.length_map] at this; omega)
    clear htb h0
    go_wp2_with (go_at_call 10; refine HT.out.mono ?_; rintro e w4 ⟨rfl, hw4⟩; refine Hid.out ?_)
    have HS4 := Lib.hid (StS.below hw4 HS3.out)
    have HA4 := Lib.hid (HA.out w4 HS4.out.2.2.2.1)
    clear hw4 HT HS3 HA
    refine Lib.hid ?_
    go_wp2_with (go_at_call 8; refine HA4.out.mono ?_; rintro e w5 ⟨rfl, hw5⟩; refine Hid.out ?_)
    have HS5 := Lib.hid (StS.below hw5 HS4.out)
    have k0 : w5.cell? ⟨w1.heap.size, 0, none⟩ = some (.slice q1 0 d1) := (cell_of_row _ w1.heap.size 0 _ _ _ HS5.out.2.2.2.2).trans rfl
    have k1 : w5.cell? ⟨w1.heap.size, 1, none⟩ = some (.slice q2 0 d2) := (cell_of_row _ w1.heap.size 1 _ _ _ HS5.out.2.2.2.2).trans rfl
    have HC5 := Lib.hid (rsame_eq _ _ L1 l HL1.out HW.out (HU1.out.trans HV.out) w5 HS5.out.2.1 HS5.out.1)
    clear hw5 HA4 HS4
    refine Lib.hid ?_
    go_wp2_with (go_at_call 13; refine HC5.out.mono ?_; rintro e w6 ⟨rfl, hw6⟩; refine Hid.out ?_)
    have HS6 := Lib.hid (StS.below hw6 HS5.out)
    have HC6 := Lib.hid (rsame_eq _ _ L2 l HL2.out HW.out (HU2.out.trans HV.out) w6 HS6.out.2.2.1 HS6.out.1)
    clear hw6 HC5 HS5 k0 k1
    refine Lib.hid ?_
    go_wp2_with (go_at_call 13; refine HC6.out.mono ?_; rintro e w7 ⟨rfl, hw7⟩)
    go_ret
    exact ⟨rfl, (HS6.out.2.2.2.1.below hw7).kept⟩
end Go.Proofs.YthnfaccenlkedaaDoor
