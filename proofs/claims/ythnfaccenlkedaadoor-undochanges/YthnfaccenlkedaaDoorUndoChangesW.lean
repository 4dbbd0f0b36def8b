/-
  The walk of the law UndoChanges.
-/
import Derived.Test.YthnfaccenlkedaaDoorUndChg
import Derived.Test.YthnfaccenlkedaaDoorModRAp
namespace Go.Proofs.YthnfaccenlkedaaDoor
open Go.RowKit

theorem invG_no {us : List Ru} {m : Mu} {room : Int} (h : applyE us m room ≠ 0) : invG us m room = [] := by unfold invG; rw [if_neg h]
theorem invN_no {us : List Ru} {m : Mu} {room : Int} (h : applyE us m room ≠ 0) : invN us m room = [] := by unfold invN; rw [if_neg h]
set_option maxRecDepth 100000 in
set_option maxHeartbeats 8000000 in
theorem undoChanges_can (v : Value) (l : List Rm) (hw : WfRL l) (hca : CanL (l.map (·.u))) (hlen : l.length ≤ 140737488355328) (vm : Value) (ms : List Mm) (hwm : WfML ms) (hcm : CanML ms) (hmlen : ms.length ≤ 140737488355328) (room : Int)
    (w0 : World) (hl : RLies v l w0) (hm : MLies vm ms w0) (ht : Tab w0) (hz : 0 < w0.heap.size) :
    Calls Tryd.prog 5 #[v, vm, .int .i64 room] w0 fun e w' => e = .returned (.bool true) ∧ Below w0.heap.size w0 w' := by
  obtain ⟨p, cap, rfl⟩ := hl.1.form
  obtain ⟨pm, capm, rfl⟩ := hm.1.form
  have HA := Lib.hid (fun (W : World) (hS : Env w0 W) => uanswers W hS.tab hS.lt)
  have HE := Lib.hid (Env.start ht hz)
  have HL := Lib.hid hl
  have HM := Lib.hid hm
  have HW := Lib.hid hw
  have HWM := Lib.hid hwm
  have HCM := Lib.hid hcm
  have HCA := Lib.hid hca
  clear ht hl hm hw hwm hcm hca
  by_cases hn : 40 < l.length
  · have hnI : (40 : Int) < (l.length : Int) := by omega
    go_enter Tryd.func5, Tryd.ntmps5
    go_wp2_with (go_at_call 8; refine (HA.out _ HE.out).mono ?_; rintro e w1 ⟨rfl, hw1⟩)
    go_ret
    exact ⟨rfl, (HE.out.below hw1).kept⟩
  have hnI : ¬ (40 : Int) < (l.length : Int) := by omega
  by_cases hn2 : 12 < ms.length
  · have hbI : (12 : Int) < (ms.length : Int) := by omega
    go_enter Tryd.func5, Tryd.ntmps5
    go_wp2_with (go_at_call 8; refine (HA.out _ HE.out).mono ?_; rintro e w1 ⟨rfl, hw1⟩)
    go_ret
    exact ⟨rfl, (HE.out.below hw1).kept⟩
  have hbI : ¬ (12 : Int) < (ms.length : Int) := by omega
  obtain ⟨us, hus⟩ : ∃ us, us = l.map (·.u) := ⟨_, rfl⟩
  have HUS := Lib.hid hus.symm
  clear hus
  go_enter Tryd.func5, Tryd.ntmps5
  go_wp2_with fail
  go_loopg [7, 8, 9] ms.length (fun k s7 s8 s9 wr => ∃ (r : Nat) (LP : List Pp) (N : List Rm), r + k = ms.length ∧ s9 = .int .i64 r ∧ ((LP.length ≤ r ∧ N.length ≤ 40 + r) ∧ WfRL N ∧ CanL (N.map (·.u)) ∧ Chain us LP (N.map (·.u))) ∧ ChS w0 s7 LP s8 N wr)
  case atStart => exact ⟨0, [], l, by omega, rfl, ⟨⟨Nat.le_refl _, by omega⟩, HW.out, HCA.out, HUS.out.symm⟩, HE.out, KOwns.nil _ _, fun x hx => (by cases hx), .inl HL.out⟩
  case round =>
    obtain ⟨r, LP, N, hr, rfl, hx, hs⟩ := hrel
    have HX := Lib.hid hx
    have HS := Lib.hid hs
    obtain ⟨pl, cl0, rfl⟩ := hs.2.1.form
    obtain ⟨pn, cn, rfl⟩ := hs.lies.1.form
    clear hx hs
    by_cases hlt : r < ms.length
    · have hltI : (r : Int) < (ms.length : Int) := by omega
      obtain ⟨m, hmi⟩ := lt_some hlt
      obtain ⟨bm, om, rfl, _⟩ := HM.out.1.at hmi
      have HMI := Lib.hid hmi
      have HMm := Lib.hid (List.mem_of_getElem? hmi)
      have HRM := Lib.hid (fun (W : World) (hb : Below w0.heap.size w0 W) => show W.rangeAt bm (om + r * 31) (mcl m) from (HM.out.below hb).1.at' HMI.out)
      have HIN := Lib.hid (fun (W : World) (hb : Below w0.heap.size w0 W) => show InM m W from (HM.out.below hb).2 m HMm.out)
      clear hmi
      have k26 : wr.cell? ⟨bm, om + r * 31 + 26, none⟩ = some (.slice m.q m.n m.c) := HRM.out wr HS.out.1.kept 26 _ (mcl_ge m 1)
      by_cases hk : 20 < m.n
      · have hkI : (20 : Int) < (m.n : Int) := by omega
        have HA1 := Lib.hid (HA.out wr HS.out.1)
        go_wp2_with (go_at_call 8; refine HA1.out.mono ?_; rintro e w1 ⟨rfl, hw1⟩)
        go_ret
        exact ⟨rfl, (HS.out.1.below hw1).kept⟩
      have hkI : ¬ (20 : Int) < (m.n : Int) := by omega
      obtain ⟨E, hE⟩ : ∃ E, applyE (N.map (·.u)) m.u room = E := ⟨_, rfl⟩
      obtain ⟨V, hV⟩ : ∃ V, applyV (N.map (·.u)) m.u room = V := ⟨_, rfl⟩
      obtain ⟨G, hG⟩ : ∃ G, invG (N.map (·.u)) m.u room = G := ⟨_, rfl⟩
      obtain ⟨C, hC⟩ : ∃ C, invN (N.map (·.u)) m.u room = C := ⟨_, rfl⟩
      have hNl : N.length ≤ 52 := by have := HX.out.1.2; omega
      have HI := Lib.hid (inverse_at (.slice pn N.length cn) N (by omega) HX.out.2.1 m (HWM.out m HMm.out) room wr HS.out.lies (HIN.out wr HS.out.1.kept) HS.out.1.tab HS.out.1.lt (N.map (·.u)) rfl E V G C hE hV hG hC)
      have HP := Lib.hid (fun (W : World) (h : Env w0 W) (hl : RLies (.slice pn N.length cn) N W) => rapply_any (.slice pn N.length cn) N (by omega) HX.out.2.1 m (HWM.out m HMm.out) room W hl (HIN.out W h.kept) h.tab h.lt)
      unfold RaR at HP
      rw [hE, hV] at HP
      have HEE := Lib.hid hE
      have HVV := Lib.hid hV
      have HGG := Lib.hid hG
      have HCC := Lib.hid hC
      clear hE hV hG hC
      have HR1 := Lib.hid (HRM.out wr HS.out.1.kept)
      go_wp2_with (first
        | (refine wpList_load_mid rfl 44 _ rfl bm (om + r * 31) rfl (mcl m) _ HR1.out Tryd.underlying44 rfl infoM ?_)
        | (go_at_call 16; refine HI.out.mono ?_; rintro e w1 ⟨v1, L1, x1, P1, x2, P2, rfl, hu, hu1, hu2, hi, hi1, hi2⟩; refine Hid.out ?_))
      obtain ⟨n1, hn1⟩ : ∃ n, P1.length = n := ⟨_, rfl⟩
      obtain ⟨n2, hn2⟩ : ∃ n, P2.length = n := ⟨_, rfl⟩
      obtain ⟨q1, d1, rfl⟩ := hi1.1.formN hn1
      obtain ⟨q2, d2, rfl⟩ := hi2.1.formN hn2
      obtain ⟨pv, cv, rfl⟩ := hi.1.form
      have HN1 := Lib.hid hn1
      have HN2 := Lib.hid hn2
      have HU := Lib.hid hu
      have HU1 := Lib.hid hu1
      have HU2 := Lib.hid hu2
      have HS1 := Lib.hid (ChS.below (hi.2.2.trans ((below1 w1 (.cells #[.slice q1 n1 d1, .slice q2 n2 d2] 25)).mono hi.2.2.size)) HS.out)
      have hz0 := HS.out.1.kept.size
      have HO := Lib.hid ((OwnL.of hi).below (below1 w1 (.cells #[.slice q1 n1 d1, .slice q2 n2 d2] 25)))
      have HO1 := Lib.hid ((OwnL.of hi1).below (below1 w1 (.cells #[.slice q1 n1 d1, .slice q2 n2 d2] 25)))
      have HO2 := Lib.hid ((OwnL.of hi2).below (below1 w1 (.cells #[.slice q1 n1 d1, .slice q2 n2 d2] 25)))
      have RP := Lib.hid (Blk.new w1 #[.slice q1 n1 d1, .slice q2 n2 d2] 25)
      clear hu hu1 hu2 hi hi1 hi2 HI HS hn1 hn2 HR1 k26
      refine Lib.hid ?_
      go_upto_region 11 with (refine wpList_store_row rfl 25 _ _ rfl w1.heap.size #[.slice q1 n1 d1, .slice q2 n2 d2] rfl rfl 25 _ (heap_alloc_new _ _) (by kernel_rfl) rfl (by simp [Value.oneCell']) ?_; rw [World.setRow_alloc_new])
      generalize w1.alloc (.cells #[.slice q1 n1 d1, .slice q2 n2 d2] 25) = W1 at *
      have HR1 := Lib.hid (HRM.out W1 HS1.out.1.kept)
      have HP1 := Lib.hid (HP.out W1 HS1.out.1 HS1.out.lies)
      go_wp2_with (first
        | (refine wpList_load_mid rfl 44 _ rfl bm (om + r * 31) rfl (mcl m) _ HR1.out Tryd.underlying44 rfl infoM ?_)
        | (go_at_call 17; refine HP1.out.mono ?_; rintro e w2 ⟨v2, L2, rfl, hu2, hl2, hw2⟩; refine Hid.out ?_))
      obtain ⟨pw, cw, rfl⟩ := hl2.1.form
      have HS2 := Lib.hid (ChS.below hw2 HS1.out)
      have HO' := Lib.hid (HO.out.below hw2)
      have HO1' := Lib.hid (HO1.out.below hw2)
      have HO2' := Lib.hid (HO2.out.below hw2)
      have RP2 := Lib.hid (RP.out.below hw2)
      have HLV := Lib.hid (show ∀ L : List Rm, L.map (·.u) = V → L.length ≤ 53 ∧ WfRL L from fun L hL => by
        rw [← HVV.out] at hL
        by_cases h0 : applyE (N.map (·.u)) m.u room = 0
        · rw [appV_ok h0] at hL
          exact ⟨len_app (n := 52) hNl hL, wf_app HX.out.2.1 (HWM.out m HMm.out) hL⟩
        · rw [appV_no h0] at hL
          rw [map_nil hL]
          exact ⟨Nat.zero_le _, fun r hr => (by cases hr)⟩)
      have HC := Lib.hid (rsame_eq _ _ L1 L2 (by have := (HLV.out L1 HU.out).1; omega) (HLV.out L2 hu2).2 (HU.out.trans hu2.symm) w2 HO'.out.lies hl2)
      have hEE : (E != E) = false := by simp
      clear hw2 hl2 hu2 HP HP1 HR1 HS1 HO HO1 HO2 RP
      refine Lib.hid ?_
      go_wp2_with (go_at_call 13; refine HC.out.mono ?_; rintro e w3 ⟨rfl, hw3⟩; refine Hid.out ?_)
      have HS3 := Lib.hid (ChS.below hw3 HS2.out)
      have HQ := Lib.hid (HO'.out.below hw3)
      have HQ1 := Lib.hid (HO1'.out.below hw3)
      have HQ2 := Lib.hid (HO2'.out.below hw3)
      have RP3 := Lib.hid (RP2.out.below hw3)
      clear hw3 HC HS2 HO' HO1' HO2' RP2 hEE
      by_cases h0 : E = 0
      · have e1 : (E != 0) = false := by rw [h0]; rfl
        have e2 : (E == 0) = true := by rw [h0]; rfl
        have HLK := Lib.hid (link_app (p := ⟨(q1, n1, d1), P1, (q2, n2, d2), P2⟩) (HEE.out.trans h0) HX.out.2.2.1 (HCM.out m HMm.out) (WfUL.of HX.out.2.1) (HWM.out m HMm.out) (by rw [List.length_map]; omega) (HU1.out.trans HGG.out.symm) (HU2.out.trans HCC.out.symm))
        have HV0 := Lib.hid (show L1.map (·.u) = applyL (N.map (·.u)) m.u by rw [HU.out, ← HVV.out]; exact appV_ok (HEE.out.trans h0))
        have HY := Lib.hid (show (L1.length ≤ 40 + (r + 1)) ∧ WfRL L1 ∧ CanL (L1.map (·.u)) from ⟨by
          have := len_app (n := 40 + r) HX.out.1.2 HV0.out
          omega, (HLV.out L1 HU.out).2, by rw [HV0.out]; exact apply_can HX.out.2.2.1 (HCM.out m HMm.out)⟩)
        clear h0
        refine Lib.hid ?_
        go_upto_region 16 with fail
        have HK := Lib.hid (Blk.klies (K := KP) (l := [(⟨(q1, n1, d1), P1, (q2, n2, d2), P2⟩ : Pp)]) (Blk.new w3 (pcl ⟨(q1, n1, d1), P1, (q2, n2, d2), P2⟩).toArray KP.T) okP rfl)
        have HS4 := Lib.hid (ChS.below (below1 w3 (.cells (pcl ⟨(q1, n1, d1), P1, (q2, n2, d2), P2⟩).toArray KP.T)) HS3.out)
        have HPN := Lib.hid (show PIn w0 ⟨(q1, n1, d1), P1, (q2, n2, d2), P2⟩ (w3.alloc (.cells (pcl ⟨(q1, n1, d1), P1, (q2, n2, d2), P2⟩).toArray KP.T)) from
          ⟨OwnL.below ⟨HQ1.out.1.mono hz0, fun y hy => (HQ1.out.2 y hy).mono hz0⟩ (below1 _ _), OwnL.below ⟨HQ2.out.1.mono hz0, fun y hy => (HQ2.out.2 y hy).mono hz0⟩ (below1 _ _)⟩)
        have HNW := Lib.hid (show OwnL w0 (.slice pv L1.length cv) L1 (w3.alloc (.cells (pcl ⟨(q1, n1, d1), P1, (q2, n2, d2), P2⟩).toArray KP.T)) from
          OwnL.below ⟨HQ.out.1.mono hz0, fun y hy => (HQ.out.2 y hy).mono hz0⟩ (below1 _ _))
        have HLE := Lib.hid (show LP.length + [(⟨(q1, n1, d1), P1, (q2, n2, d2), P2⟩ : Pp)].length ≤ 1000000 by have := HX.out.1.1; simp; omega)
        clear HS3 HQ HQ1 HQ2
        go_wp2_with (first
          | (refine wpList_load_row rfl 25 _ rfl w1.heap.size rfl 25 #[.slice q1 n1 d1, .slice q2 n2 d2] (0, 0) _ RP3.out Tryd.underlying25 rfl infoP ?_)
          | (refine kbuildOne KP okP nilP zeroP rfl _ rfl (pcl ⟨(q1, n1, d1), P1, (q2, n2, d2), P2⟩).toArray rfl (by decide) (fillP _) ?_)
          | (refine kappend KP okP rfl _ _ rfl w0.heap.size _ LP [⟨(q1, n1, d1), P1, (q2, n2, d2), P2⟩] rfl HS4.out.2.1 _ rfl HK.out HS4.out.1.kept.size HLE.out (fun v' w' ho hg => ?_); refine Hid.out ?_))
        have HS5 := Lib.hid (show ChS w0 v' (LP ++ [⟨(q1, n1, d1), P1, (q2, n2, d2), P2⟩]) (.slice pv L1.length cv) L1 w' from
          ⟨(Env.start HE.out.tab HE.out.lt).below (kbelowOwn HS4.out.1.kept HS4.out.2.1 (Nat.le_refl _) hg), ho, fun x hx => by
            rcases List.mem_append.1 hx with hx | hx
            · exact (HS4.out.2.2.1 x hx).grown HS4.out.2.1 hg
            · simp only [List.mem_cons, List.not_mem_nil, or_false] at hx
              subst hx
              exact HPN.out.grown HS4.out.2.1 hg, .inr (HNW.out.grown HS4.out.2.1 hg)⟩)
        clear ho hg HS4 HPN HNW HK RP3
        refine Lib.hid ?_
        go_wp2_with fail
        go_roundg (ms.length - (r + 1))
        case measure => omega
        case rel =>
          refine ⟨r + 1, LP ++ [⟨(q1, n1, d1), P1, (q2, n2, d2), P2⟩], L1, by omega, by go_num, ⟨⟨by have := HX.out.1.1; simp; omega, HY.out.1⟩, HY.out.2.1, HY.out.2.2, ?_⟩, HS5.out⟩
          rw [HV0.out]
          exact Chain.snoc HLK.out HX.out.2.2.2
      · have e1 : (E != 0) = true := by simpa using h0
        have e2 : (E == 0) = false := by simpa using h0
        have hne : applyE (N.map (·.u)) m.u room ≠ 0 := by rw [HEE.out]; exact h0
        obtain rfl : n1 = 0 := by rw [← HN1.out, map_nil (HU1.out.trans (HGG.out.symm.trans (invG_no hne)))]; rfl
        obtain rfl : n2 = 0 := by rw [← HN2.out, map_nil (HU2.out.trans (HCC.out.symm.trans (invN_no hne)))]; rfl
        have k0 : w3.cell? ⟨w1.heap.size, 0, none⟩ = some (.slice q1 0 d1) := (cell_of_row _ w1.heap.size 0 _ _ _ RP3.out).trans rfl
        have k1 : w3.cell? ⟨w1.heap.size, 1, none⟩ = some (.slice q2 0 d2) := (cell_of_row _ w1.heap.size 1 _ _ _ RP3.out).trans rfl
        clear h0 hne HQ HQ1 HQ2
        refine Lib.hid ?_
        go_wp2_with fail
        go_roundg (ms.length - (r + 1))
        case measure => omega
        case rel => exact ⟨r + 1, LP, N, by omega, by go_num, ⟨⟨by have := HX.out.1.1; omega, by have := HX.out.1.2; omega⟩, HX.out.2.1, HX.out.2.2.1, HX.out.2.2.2⟩, HS3.out⟩
    · have hltI : ¬ (r : Int) < (ms.length : Int) := by omega
      have HCH := Lib.hid HX.out.2.2.2
      have hLPl : LP.length ≤ 12 := by have := HX.out.1.1; omega
      clear HX
      go_wp2_with fail
      go_loopg [8, 15] LP.length (fun k s8 s15 wr => ∃ (r : Nat) (N : List Rm) (z : Int), r = k ∧ r ≤ LP.length ∧ s15 = .int .i64 z ∧ z = (r : Int) - 1 ∧ Chain us (LP.take r) (N.map (·.u)) ∧ ChS w0 (.slice pl LP.length cl0) LP s8 N wr)
      case atStart => exact ⟨LP.length, N, (LP.length : Int) - 1, rfl, Nat.le_refl _, by first | rfl | go_num, rfl, by rw [List.take_length]; exact HCH.out, HS.out⟩
      case round =>
        clear HS HCH
        obtain ⟨r1, N1, z, hr1, hrl, rfl, hz1, hch, hs⟩ := hrel
        have HS := Lib.hid hs
        have HCH := Lib.hid hch
        obtain ⟨pn1, cn1, rfl⟩ := hs.lies.1.form
        clear hs hch
        cases r1 with
        | zero =>
          obtain rfl : z = -1 := by omega
          have HUN := Lib.hid (show us = N1.map (·.u) from HCH.out)
          have HA1 := Lib.hid (HA.out _ HS.out.1)
          clear hz1 HCH
          go_wp2_with (go_at_call 8; refine HA1.out.mono ?_; rintro e w5 ⟨rfl, hw5⟩; refine Hid.out ?_)
          have HS5 := Lib.hid (ChS.below hw5 HS.out)
          have HC5 := Lib.hid (rsame_eq _ _ N1 l (by have := len_u (HUN.out.symm.trans HUS.out.symm); rw [List.length_map] at this; omega) HW.out (HUN.out.symm.trans HUS.out.symm) w5 HS5.out.lies (HL.out.below HS5.out.1.kept))
          clear hw5 HA1 HS
          refine Lib.hid ?_
          go_wp2_with (go_at_call 13; refine HC5.out.mono ?_; rintro e w6 ⟨rfl, hw6⟩)
          go_ret
          exact ⟨rfl, (HS5.out.1.below hw6).kept⟩
        | succ r2 =>
          obtain rfl : z = (r2 : Int) := by omega
          have hge : (0 : Int) ≤ (r2 : Int) := by omega
          have hlt2 : r2 < LP.length := by omega
          have hlt2I : (r2 : Int) < (LP.length : Int) := by omega
          obtain ⟨pp, hpp⟩ := lt_some hlt2
          obtain ⟨bp, op, rfl, hrg⟩ := (HS.out.2.1.lies okP).at hpp
          have HRP := Lib.hid (show World.rangeAt _ bp (op + r2 * 2) (pcl pp) from hrg)
          have hch := HCH.out
          rw [List.take_add_one, hpp] at hch
          obtain ⟨D, hD, hlk⟩ := Chain.unsnoc (show Chain us (LP.take r2 ++ [pp]) (N1.map (·.u)) from hch)
          have HD := Lib.hid hD
          have hpin := HS.out.2.2.1 pp (List.mem_of_getElem? hpp)
          have HB := Lib.hid (back_link hlk _ N1 _ rfl HS.out.lies hpin.1.lies hpin.2.lies HS.out.1.tab HS.out.1.lt)
          clear hz1 HCH hrg hch hD hlk hpin hpp
          go_wp2_with (first
            | (refine wpList_load_mid rfl 25 _ rfl bp (op + r2 * 2) rfl (pcl pp) _ HRP.out Tryd.underlying25 rfl infoP ?_)
            | (go_at_call 12; refine HB.out.mono ?_; rintro e w5 ⟨v5, L5, rfl, hu5, hi5⟩; refine Hid.out ?_))
          have HU5 := Lib.hid hu5
          have hz5 := HS.out.1.kept.size
          have HS5 := Lib.hid (show ChS w0 (.slice (some ⟨bp, op, none⟩) LP.length cl0) LP v5 L5 w5 from
            ⟨HS.out.1.below hi5.2.2, HS.out.2.1.below hi5.2.2, fun x hx => (HS.out.2.2.1 x hx).below hi5.2.2, .inr ⟨hi5.1.mono hz5, fun y hy => (hi5.2.1 y hy).mono hz5⟩⟩)
          clear hu5 hi5 HB HRP HS
          refine Lib.hid ?_
          go_wp2_with fail
          go_roundg r2
          case measure => omega
          case rel => exact ⟨r2, L5, (r2 : Int) - 1, rfl, by omega, by first | rfl | go_num, rfl, by rw [HU5.out]; exact HD.out, HS5.out⟩
theorem undoChanges_any (v : Value) (l : List Rm) (hw : WfRL l) (hlen : l.length ≤ 140737488355328) (vm : Value) (ms : List Mm) (hwm : WfML ms) (hmlen : ms.length ≤ 140737488355328) (room : Int) (_ : I64 room)
    (w0 : World) (hl : RLies v l w0) (hm : MLies vm ms w0) (ht : Tab w0) (hz : 0 < w0.heap.size) :
    Calls Tryd.prog 5 #[v, vm, .int .i64 room] w0 fun e w' => e = .returned (.bool true) ∧ Below w0.heap.size w0 w' :=
  undoChanges_can v (l.map canR) hw.can (canL_map l) (by rw [map_can_len]; exact hlen) vm (ms.map canM) hwm.can (canML_map ms) (by rw [List.length_map]; exact hmlen) room w0 hl.can hm.can ht hz
end Go.Proofs.YthnfaccenlkedaaDoor
