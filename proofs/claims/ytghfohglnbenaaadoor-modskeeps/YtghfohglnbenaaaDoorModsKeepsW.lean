/-
  The walk of the law ModsKeeps.
-/
import Derived.Test.YtghfohglnbenaaaDoorModSam
import Derived.Test.YtghfohglnbenaaaDoorLapKeepM
namespace Go.Proofs.YtghfohglnbenaaaDoor
open Go.RowKit

theorem infoIntM : (Tryd.prog.info? 3).map (·.size) = some 1 := by kernel_rfl
theorem mca_acts (m : Mm) (q : Option Addr) (n c : Nat) : (mca m).setIfInBounds 26 (.slice q n c) = mca ⟨m.u, q, n, c⟩ := by
  apply Array.ext'
  simp only [mca, mcl, Array.toList_setIfInBounds]
  rw [show 26 = 25 + 1 from rfl, List.set_cons_succ, show 25 = 24 + 1 from rfl, List.set_append_right _ _ (by simp [cl])]
  simp [cl, mtl]
set_option maxRecDepth 100000 in
set_option maxHeartbeats 8000000 in
theorem modsKeeps_any (v : Value) (l : List Rm) (hw : WfRL l) (hlen : l.length ≤ 140737488355328) (m : Mm) (hm : WfM m.u) (w0 : World) (hl : RLies v l w0) (ha : InM m w0) (ht : Tab w0) (hz : 0 < w0.heap.size) :
    Calls Tryd.prog 10 #[v, .agg (mca m)] w0 fun e w' => e = .returned (.bool true) ∧ Below w0.heap.size w0 w' := by
  obtain ⟨p, cap, rfl⟩ := hl.1.form
  have HSA := Lib.hid (show ApS w0 (.slice p l.length cap) l m (w0.alloc (.cells (mca m) 30)) from ⟨hl.below (below1 _ _), ha.below (below1 _ _), Blk.new _ _ _, (Env.start ht hz).alloc _⟩)
  have HA := Lib.hid (fun (W : World) (hS : Env w0 W) => manswers W hS.tab hS.lt)
  have HW := Lib.hid hw
  have HM := Lib.hid hm
  have k26 := HSA.out.2.2.1.cellsM.2.2.2.1
  clear ht hl hw ha hm
  by_cases hn : 40 < l.length
  · have hnI : (40 : Int) < (l.length : Int) := by omega
    go_enter Tryd.func10, Tryd.ntmps10
    go_wp2_with (go_at_call 12; refine (HA.out _ HSA.out.2.2.2).mono ?_; rintro e w1 ⟨rfl, hw1⟩)
    go_ret
    exact ⟨rfl, (HSA.out.2.2.2.below hw1).kept⟩
  have hnI : ¬ (40 : Int) < (l.length : Int) := by omega
  by_cases hk : 20 < m.n
  · have hkI : (20 : Int) < (m.n : Int) := by omega
    go_enter Tryd.func10, Tryd.ntmps10
    go_wp2_with (go_at_call 12; refine (HA.out _ HSA.out.2.2.2).mono ?_; rintro e w1 ⟨rfl, hw1⟩)
    go_ret
    exact ⟨rfl, (HSA.out.2.2.2.below hw1).kept⟩
  have hkI : ¬ (20 : Int) < (m.n : Int) := by omega
  have hl40 : l.length ≤ 40 := by omega
  clear hlen hn
  go_enter Tryd.func10, Tryd.ntmps10
  go_wp2_with fail
  clear k26
  generalize w0.alloc (.cells (mca m) 30) = wA at *
  go_loopg [5, 6] l.length (fun k vin i wr => ∃ (r : Nat) (In : List Rm), r + k = l.length ∧ i = .int .i64 r ∧ In.map (·.u) = (l.take r).map (·.u) ∧ InS wA vin In wr)
  case atStart => exact ⟨0, [], by omega, rfl, rfl, KOwns.nil _ _, fun y hy => (by cases hy), Below.refl _ _⟩
  case round =>
    obtain ⟨r, In, hr, rfl, hu, hs⟩ := hrel
    have HU := Lib.hid hu
    have HS := Lib.hid hs
    have hIl : In.length = r := by have := congrArg List.length hu; rw [List.length_map, List.length_map, List.length_take] at this; omega
    clear hu hs
    by_cases hlt : r < l.length
    · have hltI : (r : Int) < (l.length : Int) := by omega
      obtain ⟨x, hx⟩ := lt_some hlt
      have HL1 := Lib.hid (HSA.out.1.below HS.out.2.2)
      obtain ⟨b, o, rfl, hrg⟩ := HL1.out.1.at hx
      have HR := Lib.hid hrg
      have HX := Lib.hid hx
      have HAx := Lib.hid ((HL1.out.acts hx).below (below1 wr (.cells (rca x) 44)))
      have HWx := Lib.hid (HW.out.at hx)
      clear hrg hx HL1
      go_upto_region 8 with (first
        | (refine wpList_load_mid rfl 44 _ rfl b (o + r * 32) rfl (rcl x) _ HR.out Tryd.underlying44 rfl infoR ?_)
        | (refine wpList_store_row rfl 44 _ _ rfl wr.heap.size (rca x) rfl rfl 44 _ (heap_alloc_new _ _) (by kernel_rfl) rfl (rca_one _) ?_; rw [World.setRow_alloc_new]))
      have RX := Lib.hid (Blk.new wr (rca x) 44)
      have HB1 := Lib.hid (below1 wr (.cells (rca x) 44))
      have hlt1 : wr.heap.size < (wr.alloc (.cells (rca x) 44)).heap.size := RX.out.lt
      have HLT1 := Lib.hid hlt1
      clear HR hlt1
      generalize wr.alloc (.cells (rca x) 44) = W at *
      have RX2 := Lib.hid (RX.out.old (.cells #[] KA.T))
      have HAx2 := Lib.hid (HAx.out.below (below1 W (.cells #[] KA.T)))
      have k25 := RX2.out.cellsR.2.2.1
      go_wp2_with (first
        | (refine kbuildNone KA okA rfl rfl ?_)
        | (refine kappendB KA okA rfl (.tmp 33) (.tmp 35) rfl W.heap.size _ [] x.u.acts rfl (KOwns.built W _ (Nat.le_refl _)) _ rfl HAx2.out (by simp) (by simpa using HWx.out.room) (fun v3 w3 ho hg => ?_); refine Hid.out ?_))
      have hb3 := kbelowOwn (below1 W (.cells #[] KA.T)) (KOwns.built (K := KA) W W.heap.size (Nat.le_refl _)) (Nat.le_refl _) hg
      have ho' : KOwns KA W.heap.size v3 x.u.acts w3 := ho
      obtain ⟨q, c, rfl⟩ := ho'.form
      have RX3 := Lib.hid (RX.out.below hb3)
      have HO := Lib.hid ho'
      have HB3 := Lib.hid (HB1.out.trans (hb3.mono HB1.out.size))
      clear ho ho' hg hb3 RX RX2 HAx HAx2 k25 HB1
      refine Lib.hid ?_
      go_wp2_with (refine storeCell rfl 28 _ _ rfl wr.heap.size 25 (.slice q x.u.acts.length c) rfl rfl rfl (RX3.out.there (by rw [rca_size]; decide)) infoActs ?_; refine Hid.out ?_)
      have R4' := RX3.out.one (k := 25) (.slice q x.u.acts.length c)
      rw [rca_acts] at R4'
      have R4 := Lib.hid R4'
      have hws : wA.heap.size ≤ W.heap.size := by have := HS.out.2.2.size; have := HLT1.out; omega
      have HO4 := Lib.hid (show OwnA wA.heap.size ⟨x.u, q, x.u.acts.length, c⟩ (w3.setCell ⟨wr.heap.size, 25, none⟩ (.slice q x.u.acts.length c)) from KOwns.mono (KOwns.other HO.out fun g hg _ => heap_setCell_other _ _ _ _ (by have := HLT1.out; show g ≠ wr.heap.size; omega)) hws)
      have HS4 := Lib.hid (InS.below (HB3.out.setCell (Nat.le_refl _) (.slice q x.u.acts.length c) (p := ⟨wr.heap.size, 25, none⟩)) HS.out)
      clear R4' RX3 HO HB3 HS HLT1 hws
      generalize w3.setCell ⟨wr.heap.size, 25, none⟩ (.slice q x.u.acts.length c) = W4 at *
      obtain ⟨y, hy⟩ : ∃ y : Rm, y = ⟨x.u, q, x.u.acts.length, c⟩ := ⟨_, rfl⟩
      rw [← hy] at R4 HO4
      have HYU := Lib.hid (show y.u = x.u by rw [hy])
      clear hy
      have HS5 := Lib.hid (InS.below (below1 W4 (.cells (rca y) KR.T)) HS4.out)
      have HO5 := Lib.hid (HO4.out.below (below1 W4 (.cells (rca y) KR.T)))
      have HK5 := Lib.hid (Blk.klies (l := [y]) (Blk.new W4 (rca y) KR.T) okR (by simp [Kd.flat, rca]))
      refine Lib.hid ?_
      go_wp2_with (first
        | (refine wpList_load_row rfl 44 _ rfl wr.heap.size rfl 44 (rca y) (0, 0) _ R4.out Tryd.underlying44 rfl infoR ?_)
        | (refine kbuildOne KR okR #[Value.int IntKind.u64 0, Value.int IntKind.u64 0, Value.int IntKind.u64 0, Value.int IntKind.u64 0, Value.int IntKind.u64 0, Value.int IntKind.u64 0, Value.int IntKind.u64 0, Value.int IntKind.u64 0, Value.int IntKind.u64 0, Value.int IntKind.u64 0, Value.int IntKind.u64 0, Value.int IntKind.u64 0, Value.int IntKind.u64 0, Value.int IntKind.u64 0, Value.int IntKind.u64 0, Value.int IntKind.u64 0, Value.int IntKind.u64 0, Value.int IntKind.u64 0, Value.int IntKind.u64 0, Value.int IntKind.u64 0, Value.int IntKind.u64 0, Value.int IntKind.u64 0, Value.int IntKind.u64 0, Value.int IntKind.u64 0, Value.int IntKind.i64 0, Value.slice none 0 0, Value.int IntKind.i64 0, Value.int IntKind.i64 0, Value.int IntKind.i64 0, Value.int IntKind.i64 0, Value.int IntKind.i64 0, Value.int IntKind.i64 0] zeroR rfl (.tmp 39) rfl (rca y) rfl (by decide) (fillOne y) ?_)
        | (refine kappend KR okR rfl (.tmp 38) (.tmp 40) rfl wA.heap.size u5 In [y] rfl HS5.out.1 _ rfl HK5.out HS5.out.2.2.size (by simp; omega) (fun v6 w6 ho hg => ?_); refine Hid.out ?_))
      have HS6 := Lib.hid (HS5.out.push HO5.out ho hg)
      clear ho hg HS5 HO5 HK5 HS4 HO4 R4
      refine Lib.hid ?_
      go_wp2_with fail
      go_roundg (l.length - (r + 1))
      case measure => omega
      case rel =>
        refine ⟨r + 1, In ++ [y], by omega, by go_num, ?_, HS6.out⟩
        rw [take_map_succ HX.out, List.map_append, HU.out, ← HYU.out]
        rfl
    · have hltI : ¬ (r : Int) < (l.length : Int) := by omega
      obtain rfl : r = l.length := by omega
      have HIU := Lib.hid (show In.map (·.u) = l.map (·.u) by have := HU.out; rwa [List.take_length] at this)
      generalize wr = WB at *
      have HWI := Lib.hid (WfUL.rl (WfUL.of HW.out) HIU.out)
      have hIl40 : In.length ≤ 40 := by omega
      have HAB := Lib.hid (ApS.below HS.out.2.2 HSA.out)
      have RM := Lib.hid HAB.out.2.2.1
      have HIN := Lib.hid HS.out.lies
      obtain ⟨pi, ci, rfl⟩ := HS.out.1.form
      clear HS HU hIl HSA hr hltI
      go_upto_region 11 with (first
        | (refine wpList_load_row rfl 30 (.tmp 3) rfl w0.heap.size rfl 30 (mca m) (0, 0) _ RM.out Tryd.underlying30 rfl infoM ?_)
        | (refine wpList_store_row rfl 30 _ _ rfl WB.heap.size (mca m) rfl rfl 30 _ (heap_alloc_new _ _) (by kernel_rfl) rfl (mca_one _) ?_; rw [World.setRow_alloc_new]))
      have RX := Lib.hid (Blk.new WB (mca m) 30)
      have HB1 := Lib.hid (below1 WB (.cells (mca m) 30))
      have hlt1 : WB.heap.size < (WB.alloc (.cells (mca m) 30)).heap.size := RX.out.lt
      have HLT1 := Lib.hid hlt1
      clear hlt1 RM
      generalize WB.alloc (.cells (mca m) 30) = W at *
      have HA2 := Lib.hid (ApS.below (HB1.out.trans ((below1 W (.cells #[] KA.T)).mono HB1.out.size)) HAB.out)
      have k26 := HA2.out.2.2.1.cellsM.2.2.2.1
      have HAx2 := Lib.hid (show KLies KA (.slice m.q m.n m.c) m.u.acts _ from HA2.out.2.1)
      go_wp2_with (first
        | (refine kbuildNone KA okA rfl rfl ?_)
        | (refine kappendB KA okA rfl (.tmp 43) (.tmp 45) rfl W.heap.size _ [] m.u.acts rfl (KOwns.built W _ (Nat.le_refl _)) _ rfl HAx2.out (by simp) (by simpa using HM.out.room) (fun v3 w3 ho hg => ?_); refine Hid.out ?_))
      have hb3 := kbelowOwn (below1 W (.cells #[] KA.T)) (KOwns.built (K := KA) W W.heap.size (Nat.le_refl _)) (Nat.le_refl _) hg
      have ho' : KOwns KA W.heap.size v3 m.u.acts w3 := ho
      obtain ⟨q, c, rfl⟩ := ho'.form
      have RX3 := Lib.hid (RX.out.below hb3)
      have HO := Lib.hid ho'
      have HB3 := Lib.hid (HB1.out.trans (hb3.mono HB1.out.size))
      clear ho ho' hg hb3 RX HA2 HAx2 k26 HB1
      refine Lib.hid ?_
      go_wp2_with (refine storeCell rfl 28 _ _ rfl WB.heap.size 26 (.slice q m.u.acts.length c) rfl rfl rfl (RX3.out.there (by rw [mca_size]; decide)) infoActs ?_; refine Hid.out ?_)
      have R4' := RX3.out.one (k := 26) (.slice q m.u.acts.length c)
      rw [mca_acts] at R4'
      have R4 := Lib.hid R4'
      have HN4 := Lib.hid (show InM ⟨m.u, q, m.u.acts.length, c⟩ (w3.setCell ⟨WB.heap.size, 26, none⟩ (.slice q m.u.acts.length c)) from KOwns.lies (KOwns.other HO.out fun g hg _ => heap_setCell_other _ _ _ _ (by have := HLT1.out; show g ≠ WB.heap.size; omega)) okA)
      have hb4 := HB3.out.setCell (Nat.le_refl _) (.slice q m.u.acts.length c) (p := ⟨WB.heap.size, 26, none⟩)
      have HA4 := Lib.hid (ApS.below hb4 HAB.out)
      have HIN4 := Lib.hid (HIN.out.below hb4)
      clear R4' RX3 HO HB3 HLT1 hb4 HAB HIN
      generalize w3.setCell ⟨WB.heap.size, 26, none⟩ (.slice q m.u.acts.length c) = W4 at *
      generalize WB.heap.size = bn at *
      obtain ⟨n, hnn⟩ : ∃ n : Mm, n = ⟨m.u, q, m.u.acts.length, c⟩ := ⟨_, rfl⟩
      rw [← hnn] at R4 HN4
      have hnu : n.u = m.u := by rw [hnn]
      have HNU := Lib.hid hnu
      have HWN := Lib.hid (show WfM n.u by rw [hnu]; exact HM.out)
      have hnl : In.length ≤ 50000 := by omega
      have HP := Lib.hid (apply_at _ In hnl HWI.out n HWN.out 1000 W4 HIN4.out HN4.out HA4.out.2.2.2.tab HA4.out.2.2.2.lt _ rfl _ _ rfl rfl)
      have HCl : ∀ L : List Rm, L.map (·.u) = applyV (In.map (·.u)) n.u 1000 → L.length ≤ 41 := fun L hL => by
        by_cases h0 : applyE (In.map (·.u)) n.u 1000 = 0
        · rw [appV_ok h0] at hL; exact len_app (n := 40) hIl40 hL
        · rw [appV_no h0] at hL
          obtain rfl : L = [] := by simpa using hL
          exact Nat.zero_le _
      have HCL := Lib.hid HCl
      clear HCl hnn hnu
      generalize applyE (In.map (·.u)) n.u 1000 = E at *
      generalize applyV (In.map (·.u)) n.u 1000 = V at *
      refine Lib.hid ?_
      go_upto_region 13 with (first
        | (refine wpList_load_row rfl 30 (.tmp 8) rfl bn rfl 30 (mca n) (0, 0) _ R4.out Tryd.underlying30 rfl infoM ?_)
        | (go_at_call 13; refine HP.out.mono ?_; rintro e w5 ⟨v5, C, rfl, hu5, hi5⟩; refine Hid.out ?_))
      have hC41 := HCL.out C hu5
      have HSK := Lib.hid (ShK.start hi5.1 hi5.2.1)
      obtain ⟨pq, cq, rfl⟩ := hi5.1.form
      have HS2 := Lib.hid (And.intro HSK.out hi5.2.2)
      clear hu5 hi5 HP HCL HSK
      refine Lib.hid ?_
      go_wp2_with fail
      go_loopg [11] C.length (fun k i wr => ∃ r : Nat, r + k = C.length ∧ i = .int .i64 r ∧ ShK W4.heap.size (.slice pq C.length cq) C wr ∧ Below W4.heap.size W4 wr)
      case atStart => exact ⟨0, by omega, rfl, HS2.out⟩
      case round =>
        clear HS2
        obtain ⟨r, hr, rfl, hs⟩ := hrel
        have HS := Lib.hid hs
        clear hs
        by_cases hlt : r < C.length
        · have hltI : (r : Int) < (C.length : Int) := by omega
          have hdI : decide ((r : Int) < (C.length : Int)) = true := decide_eq_true hltI
          obtain ⟨x, hx⟩ := lt_some hlt
          have HX := Lib.hid hx
          have hxm : x.n ≤ 9223372036854775807 := by have h := HS.out.1.xn hx; unfold maxLen at h; omega
          clear hx
          go_wp2_with fail
          generalize wr = WZ at *
          go_loopg [12] x.n (fun k j wr => ∃ q : Nat, q + k = x.n ∧ j = .int .i64 q ∧ ShK W4.heap.size (.slice pq C.length cq) C wr ∧ Below W4.heap.size W4 wr)
          case atStart => exact ⟨0, by omega, rfl, HS.out⟩
          case round =>
            clear HS
            obtain ⟨q2, hq, rfl, hs⟩ := hrel
            have HS := Lib.hid hs
            clear hs
            obtain ⟨gq, rfl, k25⟩ := HS.out.1.look HX.out
            by_cases hqn : q2 < x.n
            · have hqI : (q2 : Int) < (x.n : Int) := by omega
              obtain ⟨ga, pa, cur, eq, hga, hcur, hcell, hth⟩ := HS.out.1.act HX.out hqn
              rw [eq] at k25
              have HTH := Lib.hid hth
              have HS3 := Lib.hid (And.intro (HS.out.1.port (j := q2) hcur (wrap64 (pa + 1))) (HS.out.2.setCell hga (.int .i64 (wrap64 (pa + 1))) (p := ⟨ga, q2 * 4 + 1, none⟩)))
              clear hth hcur eq hga HS
              go_wp2_with (refine storeCell rfl 3 _ _ rfl ga (q2 * 4 + 1) (.int .i64 (wrap64 (pa + 1))) rfl rfl rfl HTH.out infoIntM ?_; refine Hid.out ?_)
              clear HTH hcell k25
              generalize wr.setCell ⟨ga, q2 * 4 + 1, none⟩ (.int .i64 (wrap64 (pa + 1))) = W3 at *
              refine Lib.hid ?_
              go_wp2_with fail
              go_roundg (x.n - (q2 + 1))
              case measure => omega
              case rel => exact ⟨q2 + 1, by omega, by go_num, HS3.out⟩
            · have hqI : ¬ (q2 : Int) < (x.n : Int) := by omega
              go_wp2_with fail
              go_roundg (C.length - (r + 1))
              case measure => omega
              case rel => exact ⟨r + 1, by omega, by go_num, HS.out⟩
        · have hltI : ¬ (r : Int) < (C.length : Int) := by omega
          generalize wr = W6 at *
          have HA6 := Lib.hid (ApS.below HS.out.2 HA4.out)
          have HI6 := Lib.hid (HIN4.out.below HS.out.2)
          have HN6 := Lib.hid (HN4.out.below HS.out.2)
          have R6 := Lib.hid (R4.out.below HS.out.2)
          clear HS HA4 HIN4 HN4 R4
          go_wp2_with (go_at_call 12; refine (HA.out _ HA6.out.2.2.2).mono ?_; rintro e w7 ⟨rfl, hw7⟩; refine Hid.out ?_)
          have HA7 := Lib.hid (ApS.below hw7 HA6.out)
          have HN7 := Lib.hid (HN6.out.below hw7)
          have R7 := Lib.hid (R6.out.below hw7)
          have S1 := Lib.hid (rsame_eq (.slice pi In.length ci) (.slice p l.length cap) In l (by omega) HW.out HIU.out w7 (HI6.out.below hw7) HA7.out.1)
          clear hw7 HA6 HI6 HN6 R6
          refine Lib.hid ?_
          go_wp2_with (go_at_call 15; refine S1.out.mono ?_; rintro e w8 ⟨rfl, hw8⟩; refine Hid.out ?_)
          have HA8 := Lib.hid (ApS.below hw8 HA7.out)
          have HN8 := Lib.hid (HN7.out.below hw8)
          have R8 := Lib.hid (R7.out.below hw8)
          have RM8 := Lib.hid HA8.out.2.2.1
          have S2 := Lib.hid (rsamem_any n m (by have := HM.out.room; omega) w8 HN8.out HA8.out.2.1)
          rw [HNU.out, mEq_self] at S2
          clear hw8 HA7 HN7 R7 S1
          refine Lib.hid ?_
          go_wp2_with (first
            | (refine loadRowG rfl 30 (.tmp 8) rfl bn rfl 30 (mca n) (0, 0) R8.out Tryd.underlying30 rfl infoM ?_)
            | (refine loadRowG rfl 30 (.tmp 3) rfl w0.heap.size rfl 30 (mca m) (0, 0) RM8.out Tryd.underlying30 rfl infoM ?_)
            | (go_at_call 24; refine S2.out.mono ?_; rintro e w9 ⟨rfl, hw9⟩))
          go_ret
          exact ⟨rfl, (HA8.out.2.2.2.below hw9).kept⟩
end Go.Proofs.YtghfohglnbenaaaDoor
