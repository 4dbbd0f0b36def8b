/-
  The walk of the law RuleOwn.
-/
import Derived.Test.YthalpnmejompdaaDoorRuleOwnM
import Derived.Test.YthalpnmejompdaaDoorRuleJoinsW
namespace Go.Proofs.YthalpnmejompdaaDoor
open Go.RowKit

/-- the two copies of the law -/
def OwS (WB : World) (gc : Nat) (C : List Rm) (fc : Nat → Int) (gd : Nat) (E : List Rm) (fd : Nat → Int) (W : World) : Prop := Shp gc C.length C fc W ∧ Shp gd E.length E fd W ∧ Below WB.heap.size WB W ∧ WB.heap.size ≤ gc ∧ gc < gd
section
variable {WB W W' : World} {gc gd i j : Nat} {C E : List Rm} {fc fd : Nat → Int}
theorem OwS.below (hb : Below W.heap.size W W') (h : OwS WB gc C fc gd E fd W) : OwS WB gc C fc gd E fd W' := ⟨h.1.below hb, h.2.1.below hb, h.2.2.1.trans (hb.mono h.2.2.1.size), h.2.2.2⟩
theorem OwS.port (h : OwS WB gc C fc gd E fd W) {k : Nat} {cur : Array Value} (hk : W.heap[k]? = some (.cells cur 42 (0, 0))) (hg : gc + 1 ≤ k) (x : Int) : OwS WB gc C fc gd E fd (W.setCell ⟨k, j * 4 + 1, none⟩ (.int .i64 x)) :=
  ⟨h.1.port hk x, h.2.1.port hk x, h.2.2.1.setCell (show WB.heap.size ≤ k by have := h.2.2.2.1; omega) _, h.2.2.2⟩
theorem OwS.prio (h : OwS WB gc C fc gd E fd W) (hi : i < C.length) (x : Int) : OwS WB gc C (fun j => if j = i then x else fc j) gd E fd (W.setCell ⟨gc, i * 32 + 24, none⟩ (.int .i64 x)) := by
  obtain ⟨y, hy⟩ := lt_some hi
  obtain ⟨_, _, _, cur, hc⟩ := h.1.look hy
  exact ⟨h.1.prio x hi, h.2.1.beside (by have := h.2.2.2.2; omega) hc _, h.2.2.1.setCell h.2.2.2.1 _, h.2.2.2⟩
end
/-- the Prios, the first ones one greater -/
def upP (C : List Rm) (r : Nat) : Nat → Int := fun j => if j < r then wrap64 ((nthU C j).p + 1) else (nthU C j).p
theorem upP_zero (C : List Rm) : upP C 0 = fun j => (nthU C j).p := by funext j; simp [upP]
theorem upP_succ (C : List Rm) (r : Nat) : (fun j => if j = r then wrap64 (upP C r r + 1) else upP C r j) = upP C (r + 1) := by
  funext j
  unfold upP
  by_cases e : j = r
  · subst e
    rw [if_pos rfl, if_neg (by omega), if_pos (by omega)]
  · rw [if_neg e]
    by_cases h : j < r
    · rw [if_pos h, if_pos (by omega)]
    · rw [if_neg h, if_neg (by omega)]
theorem wrap_ne (p : Int) : wrap64 (p + 1) ≠ p := by unfold wrap64; omega
set_option maxRecDepth 100000 in
set_option maxHeartbeats 4000000 in
theorem ruleOwn_any (v : Value) (l : List Rm) (hw : WfRL l) (hlen : l.length ≤ 140737488355328) (w0 : World) (hl : RLies v l w0) (ht : Tab w0) (hz : 0 < w0.heap.size) :
    Calls Tryd.prog 7 #[v] w0 fun e w' => e = .returned (.bool true) ∧ Below w0.heap.size w0 w' := by
  obtain ⟨p, cap, rfl⟩ := hl.1.form
  have HE := Lib.hid (fun (W : World) (hb : Below w0.heap.size w0 W) => (Env.start ht hz).predK W hb)
  have HA := Lib.hid (fun (W : World) (hb : Below w0.heap.size w0 W) => ranswers W (HE.out W hb).1 (HE.out W hb).2)
  have HL := Lib.hid hl
  clear ht hl
  by_cases hn : 40 < l.length
  · have hnI : (40 : Int) < (l.length : Int) := by omega
    go_enter Tryd.func7, Tryd.ntmps7
    go_wp2_with (go_at_call 10; refine (HA.out _ (Below.refl _ _)).mono ?_; rintro e w1 ⟨rfl, hw1⟩)
    go_ret
    exact ⟨rfl, hw1⟩
  · have hnI : ¬ (40 : Int) < (l.length : Int) := by omega
    have hl40 : l.length ≤ 40 := by omega
    have HW := Lib.hid hw
    clear hw hlen hn
    go_enter Tryd.func7, Tryd.ntmps7
    go_wp2_with fail
    go_loopg [3, 4] l.length (fun k vin i wr => ∃ (r : Nat) (In : List Rm), r + k = l.length ∧ i = .int .i64 r ∧ In.map (·.u) = (l.take r).map (·.u) ∧ InS w0 vin In wr)
    case atStart => exact ⟨0, [], by omega, rfl, rfl, KOwns.nil _ _, fun y hy => (by cases hy), Below.refl _ _⟩
    case round =>
      obtain ⟨r, In, hr, rfl, hu, hs⟩ := hrel
      have HU := Lib.hid hu
      have HS := Lib.hid hs
      have hIl : In.length = r := by have := congrArg List.length hu; rw [List.length_map, List.length_map, List.length_take] at this; omega
      clear hu hs
      by_cases hlt : r < l.length
      · have hltI : (r : Int) < (l.length : Int) := by omega
        obtain ⟨x, hx⟩ := lt_some hlt
        have HL1 := Lib.hid (HL.out.below HS.out.2.2)
        obtain ⟨b, o, rfl, hrg⟩ := HL1.out.1.at hx
        have HR := Lib.hid hrg
        have HX := Lib.hid hx
        have HAx := Lib.hid ((HL1.out.acts hx).below (below1 wr (.cells (rca x) 29)))
        have HWx := Lib.hid (HW.out.at hx)
        clear hrg hx HL1
        go_upto_region 8 with (first
          | (refine wpList_load_mid rfl 29 _ rfl b (o + r * 32) rfl (rcl x) _ HR.out Tryd.underlying29 rfl infoR ?_)
          | (refine wpList_store_row rfl 29 _ _ rfl wr.heap.size (rca x) rfl rfl 29 _ (heap_alloc_new _ _) (by kernel_rfl) rfl (rca_one _) ?_; rw [World.setRow_alloc_new]))
        have RX := Lib.hid (Blk.new wr (rca x) 29)
        have HB1 := Lib.hid (below1 wr (.cells (rca x) 29))
        have hlt1 : wr.heap.size < (wr.alloc (.cells (rca x) 29)).heap.size := RX.out.lt
        have HLT1 := Lib.hid hlt1
        clear HR hlt1
        generalize wr.alloc (.cells (rca x) 29) = W at *
        have RX2 := Lib.hid (RX.out.old (.cells #[] KA.T))
        have HAx2 := Lib.hid (HAx.out.below (below1 W (.cells #[] KA.T)))
        have k25 := RX2.out.cellsR.2.2.1
        go_wp2_with (first
          | (refine kbuildNone KA okA rfl rfl ?_)
          | (refine kappendB KA okA rfl (.tmp 26) (.tmp 28) rfl W.heap.size _ [] x.u.acts rfl (KOwns.built W _ (Nat.le_refl _)) _ rfl HAx2.out (by simp) (by simpa using HWx.out.room) (fun v3 w3 ho hg => ?_); refine Hid.out ?_))
        have hb3 := kbelowOwn (below1 W (.cells #[] KA.T)) (KOwns.built (K := KA) W W.heap.size (Nat.le_refl _)) (Nat.le_refl _) hg
        have ho' : KOwns KA W.heap.size v3 x.u.acts w3 := ho
        obtain ⟨q, c, rfl⟩ := ho'.form
        have RX3 := Lib.hid (RX.out.below hb3)
        have HO := Lib.hid ho'
        have HB3 := Lib.hid (HB1.out.trans (hb3.mono HB1.out.size))
        clear ho ho' hg hb3 RX RX2 HAx HAx2 k25 HB1
        refine Lib.hid ?_
        go_wp2_with (refine storeCell rfl 27 _ _ rfl wr.heap.size 25 (.slice q x.u.acts.length c) rfl rfl rfl (RX3.out.there (by rw [rca_size]; decide)) infoActs ?_; refine Hid.out ?_)
        have R4' := RX3.out.one (k := 25) (.slice q x.u.acts.length c)
        rw [rca_acts] at R4'
        have R4 := Lib.hid R4'
        have hws : w0.heap.size ≤ W.heap.size := by have := HS.out.2.2.size; have := HLT1.out; omega
        have HO4 := Lib.hid (show OwnA w0.heap.size ⟨x.u, q, x.u.acts.length, c⟩ (w3.setCell ⟨wr.heap.size, 25, none⟩ (.slice q x.u.acts.length c)) from KOwns.mono (KOwns.other HO.out fun g hg _ => heap_setCell_other _ _ _ _ (by have := HLT1.out; show g ≠ wr.heap.size; omega)) hws)
        have HS4 := Lib.hid (InS.below (HB3.out.setCell (Nat.le_refl _) (.slice q x.u.acts.length c) (p := ⟨wr.heap.size, 25, none⟩)) HS.out)
        clear R4' RX3 HO HB3 HS HLT1 hws
        generalize w3.setCell ⟨wr.heap.size, 25, none⟩ (.slice q x.u.acts.length c) = W4 at *
        obtain ⟨y, hy⟩ : ∃ y : Rm, y = ⟨x.u, q, x.u.acts.length, c⟩ := ⟨_, rfl⟩
        rw [← hy] at R4 HO4
        have HYU := Lib.hid (show y.u = x.u by rw [hy])
        clear hy
        have HS5 := Lib.hid (InS.below (below1 W4 (.cells (rca y) KR.T)) HS4.out)
        have HO5 := Lib.hid (HO4.out.below (below1 W4 (.cells (rca y) KR.T)))
        have HK5 := Lib.hid (Blk.klies (l := [y]) (Blk.new W4 (rca y) KR.T) okR (by simp [Kd.flat, rca]))
        refine Lib.hid ?_
        go_wp2_with (first
          | (refine wpList_load_row rfl 29 _ rfl wr.heap.size rfl 29 (rca y) (0, 0) _ R4.out Tryd.underlying29 rfl infoR ?_)
          | (refine kbuildOne KR okR #[Value.int IntKind.u64 0, Value.int IntKind.u64 0, Value.int IntKind.u64 0, Value.int IntKind.u64 0, Value.int IntKind.u64 0, Value.int IntKind.u64 0, Value.int IntKind.u64 0, Value.int IntKind.u64 0, Value.int IntKind.u64 0, Value.int IntKind.u64 0, Value.int IntKind.u64 0, Value.int IntKind.u64 0, Value.int IntKind.u64 0, Value.int IntKind.u64 0, Value.int IntKind.u64 0, Value.int IntKind.u64 0, Value.int IntKind.u64 0, Value.int IntKind.u64 0, Value.int IntKind.u64 0, Value.int IntKind.u64 0, Value.int IntKind.u64 0, Value.int IntKind.u64 0, Value.int IntKind.u64 0, Value.int IntKind.u64 0, Value.int IntKind.i64 0, Value.slice none 0 0, Value.int IntKind.i64 0, Value.int IntKind.i64 0, Value.int IntKind.i64 0, Value.int IntKind.i64 0, Value.int IntKind.i64 0, Value.int IntKind.i64 0] zeroR rfl (.tmp 32) rfl (rca y) rfl (by decide) (fillOne y) ?_)
          | (refine kappend KR okR rfl (.tmp 31) (.tmp 33) rfl w0.heap.size u3 In [y] rfl HS5.out.1 _ rfl HK5.out HS5.out.2.2.size (by simp; omega) (fun v6 w6 ho hg => ?_); refine Hid.out ?_))
        have HS6 := Lib.hid (HS5.out.push HO5.out ho hg)
        clear ho hg HS5 HO5 HK5 HS4 HO4 R4
        refine Lib.hid ?_
        go_wp2_with fail
        go_roundg (l.length - (r + 1))
        case measure => omega
        case rel =>
          refine ⟨r + 1, In ++ [y], by omega, by go_num, ?_, HS6.out⟩
          rw [take_map_succ HX.out, List.map_append, HU.out, ← HYU.out]
          rfl
      · have hltI : ¬ (r : Int) < (l.length : Int) := by omega
        obtain rfl : r = l.length := by omega
        have HIU := Lib.hid (show In.map (·.u) = l.map (·.u) by have := HU.out; rwa [List.take_length] at this)
        generalize wr = WB at *
        have HIN := Lib.hid HS.out.lies
        have BB := Lib.hid HS.out.2.2
        have HLB := Lib.hid (HL.out.below BB.out)
        obtain ⟨pi, ci, rfl⟩ := HS.out.1.form
        have HWI := Lib.hid (WfUL.rl (WfUL.of HW.out) HIU.out)
        have hIl40 : In.length ≤ 40 := by omega
        clear HS HL HU hIl
        have C1 := Lib.hid (copy_any (.slice pi In.length ci) In (by omega) HWI.out WB HIN.out)
        go_wp2_with (go_at_call 20; refine C1.out.mono ?_; rintro e w1 ⟨gc, C, rfl, hx, hcx⟩; refine Hid.out ?_)
        have HCU := Lib.hid (show C.map (·.u) = l.map (·.u) by rw [hx, HIU.out])
        have SC := Lib.hid (Shp.start hcx)
        have hC40 : C.length ≤ 40 := by have h := congrArg List.length hx; rw [List.length_map, List.length_map] at h; omega
        have BC := Lib.hid (show Below WB.heap.size WB w1 from hcx.2.2.1)
        have hgc : WB.heap.size ≤ gc := hcx.2.2.2
        have B1 := Lib.hid (BB.out.trans (BC.out.mono BB.out.size))
        clear hx hcx C1
        have C2 := Lib.hid (rsort_any (.slice pi In.length ci) In (by omega) HWI.out w1 (HIN.out.below BC.out) (HE.out w1 B1.out).1 (HE.out w1 B1.out).2)
        refine Lib.hid ?_
        go_wp2_with (go_at_call 19; refine C2.out.mono ?_; rintro e w2 ⟨gd, E, rfl, hx, hcx⟩; refine Hid.out ?_)
        have hb2 : Below w1.heap.size w1 w2 := hcx.2.2.1
        have hE40 : E.length ≤ 40 := by have h := congrArg List.length hx; have h2 := tblOf_len (In.map (·.u)); rw [List.length_map] at h h2; omega
        have HS2 := Lib.hid (show OwS WB gc C (upP C 0) gd E (fun j => (nthU E j).p) w2 from ⟨by rw [upP_zero]; exact SC.out.below hb2, Shp.start hcx, BC.out.trans (hb2.mono BC.out.size), hgc, by have := SC.out.lt; have := hcx.2.2.2; omega⟩)
        clear hx hcx hb2 C2 SC BC B1
        generalize (fun j => (nthU E j).p) = fd at *
        obtain ⟨nl, hnl⟩ : ∃ nl, nl = l.length := ⟨_, rfl⟩
        have HNL := Lib.hid hnl
        refine Lib.hid ?_
        rw [← hnl]
        clear hnl
        go_wp2_with fail
        go_loopg [8] C.length (fun k i wr => ∃ r : Nat, r + k = C.length ∧ i = .int .i64 r ∧ OwS WB gc C (upP C r) gd E fd wr)
        case atStart => exact ⟨0, by omega, rfl, HS2.out⟩
        case round =>
          clear HS2
          obtain ⟨r, hr, rfl, hs⟩ := hrel
          have HS := Lib.hid hs
          clear hs
          by_cases hlt : r < C.length
          · have hltI : (r : Int) < (C.length : Int) := by omega
            have hdI : decide ((r : Int) < (C.length : Int)) = true := decide_eq_true hltI
            obtain ⟨x, hx⟩ := lt_some hlt
            have HX := Lib.hid hx
            have hxm : x.n ≤ 9223372036854775807 := by have h := HS.out.1.xn hx; unfold maxLen at h; omega
            clear hx
            go_wp2_with fail
            generalize wr = WZ at *
            go_loopg [9] x.n (fun k j wr => ∃ q : Nat, q + k = x.n ∧ j = .int .i64 q ∧ OwS WB gc C (upP C r) gd E fd wr)
            case atStart => exact ⟨0, by omega, rfl, HS.out⟩
            case round =>
              clear HS
              obtain ⟨q, hq, rfl, hs⟩ := hrel
              have HS := Lib.hid hs
              clear hs
              have k25 := (HS.out.1.look HX.out).1
              by_cases hqn : q < x.n
              · have hqI : (q : Int) < (x.n : Int) := by omega
                obtain ⟨ga, pa, cur, eq, hga, hcur, hcell, hth⟩ := HS.out.1.act HX.out hqn
                rw [eq] at k25
                have HTH := Lib.hid hth
                have HS3 := Lib.hid (HS.out.port (j := q) hcur hga (wrap64 (pa + 1)))
                clear hth hcur eq hga HS
                go_wp2_with (refine storeCell rfl 3 _ _ rfl ga (q * 4 + 1) (.int .i64 (wrap64 (pa + 1))) rfl rfl rfl HTH.out infoI ?_; refine Hid.out ?_)
                clear HTH hcell k25
                generalize wr.setCell ⟨ga, q * 4 + 1, none⟩ (.int .i64 (wrap64 (pa + 1))) = W3 at *
                refine Lib.hid ?_
                go_wp2_with fail
                go_roundg (x.n - (q + 1))
                case measure => omega
                case rel => exact ⟨q + 1, by omega, by go_num, HS3.out⟩
              · have hqI : ¬ (q : Int) < (x.n : Int) := by omega
                obtain ⟨_, hp, hth, _⟩ := HS.out.1.look HX.out
                obtain ⟨pr, hpr⟩ : ∃ pr, pr = upP C r r := ⟨_, rfl⟩
                have hS3 := HS.out.prio hlt (wrap64 (upP C r r + 1))
                rw [upP_succ] at hS3
                rw [← hpr] at hp hS3
                have HS3 := Lib.hid hS3
                have HTH := Lib.hid hth
                clear hth hS3 hpr HS
                go_wp2_with (refine storeCell rfl 3 _ _ rfl gc (r * 32 + 24) (.int .i64 (wrap64 (pr + 1))) rfl rfl rfl HTH.out infoI ?_; refine Hid.out ?_)
                clear HTH hp k25
                generalize wr.setCell ⟨gc, r * 32 + 24, none⟩ (.int .i64 (wrap64 (pr + 1))) = W3 at *
                refine Lib.hid ?_
                go_wp2_with fail
                go_roundg (C.length - (r + 1))
                case measure => omega
                case rel => exact ⟨r + 1, by omega, by go_num, HS3.out⟩
          · have hltI : ¬ (r : Int) < (C.length : Int) := by omega
            obtain rfl : r = C.length := by omega
            have HS2 := Lib.hid HS.out
            clear HS
            go_wp2_with fail
            go_loopg [10] E.length (fun k i wr => ∃ r : Nat, r + k = E.length ∧ i = .int .i64 r ∧ OwS WB gc C (upP C C.length) gd E fd wr)
            case atStart => exact ⟨0, by omega, rfl, HS2.out⟩
            case round =>
              clear HS2
              obtain ⟨r, hr, rfl, hs⟩ := hrel
              have HS := Lib.hid hs
              clear hs
              by_cases hlt : r < E.length
              · have hltI : (r : Int) < (E.length : Int) := by omega
                have hdI : decide ((r : Int) < (E.length : Int)) = true := decide_eq_true hltI
                obtain ⟨x, hx⟩ := lt_some hlt
                have HX := Lib.hid hx
                have hxm : x.n ≤ 9223372036854775807 := by have h := HS.out.2.1.xn hx; unfold maxLen at h; omega
                clear hx
                go_wp2_with fail
                generalize wr = WZ at *
                go_loopg [11] x.n (fun k j wr => ∃ q : Nat, q + k = x.n ∧ j = .int .i64 q ∧ OwS WB gc C (upP C C.length) gd E fd wr)
                case atStart => exact ⟨0, by omega, rfl, HS.out⟩
                case round =>
                  clear HS
                  obtain ⟨q, hq, rfl, hs⟩ := hrel
                  have HS := Lib.hid hs
                  clear hs
                  have k25 := (HS.out.2.1.look HX.out).1
                  by_cases hqn : q < x.n
                  · have hqI : (q : Int) < (x.n : Int) := by omega
                    obtain ⟨ga, pa, cur, eq, hga, hcur, hcell, hth⟩ := HS.out.2.1.act HX.out hqn
                    rw [eq] at k25
                    have HTH := Lib.hid hth
                    have HS3 := Lib.hid (HS.out.port (j := q) hcur (by have := HS.out.2.2.2.2; omega) (wrap64 (pa + 1)))
                    clear hth hcur eq hga HS
                    go_wp2_with (refine storeCell rfl 3 _ _ rfl ga (q * 4 + 1) (.int .i64 (wrap64 (pa + 1))) rfl rfl rfl HTH.out infoI ?_; refine Hid.out ?_)
                    clear HTH hcell k25
                    generalize wr.setCell ⟨ga, q * 4 + 1, none⟩ (.int .i64 (wrap64 (pa + 1))) = W3 at *
                    refine Lib.hid ?_
                    go_wp2_with fail
                    go_roundg (x.n - (q + 1))
                    case measure => omega
                    case rel => exact ⟨q + 1, by omega, by go_num, HS3.out⟩
                  · have hqI : ¬ (q : Int) < (x.n : Int) := by omega
                    go_wp2_with fail
                    go_roundg (E.length - (r + 1))
                    case measure => omega
                    case rel => exact ⟨r + 1, by omega, by go_num, HS.out⟩
              · have hltI : ¬ (r : Int) < (E.length : Int) := by omega
                obtain rfl : r = E.length := by omega
                generalize wr = W4 at *
                have HCl := Lib.hid (show C.length = nl by have := congrArg List.length HCU.out; rw [List.length_map, List.length_map] at this; rw [HNL.out]; exact this)
                have B4 := Lib.hid (BB.out.trans (HS.out.2.2.1.mono BB.out.size))
                go_wp2_with (go_at_call 10; refine (HA.out _ B4.out).mono ?_; rintro e w5 ⟨rfl, hw5⟩; refine Hid.out ?_)
                have HS5 := Lib.hid (OwS.below hw5 HS.out)
                have B5 := Lib.hid (B4.out.trans (hw5.mono B4.out.size))
                clear hw5 HS B4
                have C5 := Lib.hid (same_rules _ _ In l (by omega) HW.out w5 (HIN.out.below HS5.out.2.2.1) (HLB.out.below HS5.out.2.2.1))
                rw [HIU.out, sameL_self] at C5
                have hC5 := C5.out
                rw [← HNL.out] at hC5
                have C6 := Lib.hid hC5
                clear hC5 C5
                refine Lib.hid ?_
                go_wp2_with (go_at_call 25; refine C6.out.mono ?_; rintro e w6 ⟨rfl, hw6⟩; refine Hid.out ?_)
                have HS6 := Lib.hid (OwS.below hw6 HS5.out)
                have B6 := Lib.hid (B5.out.trans (hw6.mono B5.out.size))
                clear hw6 HS5 B5 C6
                have hceq : ((C.length : Int) == (nl : Int)) = true := by have := HCl.out; simp; omega
                by_cases h0 : nl = 0
                · subst h0
                  have hcl0 : C.length = 0 := HCl.out
                  refine Lib.hid ?_
                  go_wp2_with fail
                  go_ret
                  exact ⟨rfl, B6.out⟩
                · have hne : ((nl : Int) == 0) = false := by simp; omega
                  obtain ⟨D, hD1, hD2, hD3, hD4⟩ := HS6.out.1
                  have HD := Lib.hid (show RLies (.slice (some ⟨gc, 0, none⟩) C.length C.length) D w6 from ⟨hD2.lies _ hD1.symm _ (Nat.le_refl _), fun y hy => (hD3 y hy).inA⟩)
                  have C7 := Lib.hid (same_rules _ _ D l (by have := HCl.out; have := HNL.out; omega) HW.out w6 HD.out (HLB.out.below HS6.out.2.2.1))
                  have e7 : sameL (D.map (·.u)) (l.map (·.u)) = false := by
                    obtain ⟨d, hd⟩ := lt_some (l := D) (i := 0) (by have := HCl.out; omega)
                    obtain ⟨z, hz0⟩ := lt_some (l := l) (i := 0) (by have := HNL.out; omega)
                    obtain ⟨c, hc, _, _, _, ep⟩ := hD4 0 d hd
                    refine sameL_ne (get_map hd) (get_map hz0) ?_
                    have ec : c.u = z.u := by
                      have e1 := get_map hc
                      have e2 := get_map hz0
                      rw [HCU.out, e2] at e1
                      injection e1 with e1
                      exact e1.symm
                    have ep2 : d.u.p = wrap64 (z.u.p + 1) := by
                      rw [ep]
                      unfold upP
                      rw [if_pos (by have := HCl.out; omega), nthU_at hc, ec]
                    unfold rEq keyB
                    rw [ep2, show (wrap64 (z.u.p + 1) == z.u.p) = false by simpa using wrap_ne z.u.p]
                    rfl
                  rw [e7] at C7
                  have hC7 := C7.out
                  rw [← HNL.out] at hC7
                  have C8 := Lib.hid hC7
                  clear hD1 hD2 hD3 hD4 HD C7 hC7 e7
                  refine Lib.hid ?_
                  go_wp2_with (go_at_call 25; refine C8.out.mono ?_; rintro e w7 ⟨rfl, hw7⟩)
                  go_ret
                  exact ⟨rfl, B6.out.trans (hw7.mono B6.out.size)⟩
end Go.Proofs.YthalpnmejompdaaDoor
