/-
  The walks of the reference's Alone and Swap.
-/
import Derived.Test.YthnfaccenlkedaaDoorUndSwap
import Derived.Test.YthnfaccenlkedaaDoorRuleRSt
namespace Go.Proofs.YthnfaccenlkedaaDoor
set_option maxRecDepth 20000
open Go.RowKit

theorem eqB_nil (x : Rm) : eqB [] x = false := rfl
theorem eqB_snoc {b : List Rm} {c : Nat} {x y : Rm} (hy : b[c]? = some y) : eqB (b.take (c + 1)) x = (eqB (b.take c) x || rEq x.u y.u) := by
  unfold eqB inL
  rw [take_map_succ hy, List.any_append]
  simp
theorem filt_snoc {a b : List Rm} {r : Nat} {x : Rm} (hx : a[r]? = some x) : (a.take (r + 1)).filter (fun z => !eqB b z) = (a.take r).filter (fun z => !eqB b z) ++ if eqB b x then [] else [x] := by
  rw [List.take_add_one, hx, List.filter_append]
  congr 1
  cases h : eqB b x <;> simp [h]
/-- the list that grows -/
def AlS (w0 : World) (ov : Value) (L : List Rm) (W : World) : Prop := KOwns KR w0.heap.size ov L W ∧ Below w0.heap.size w0 W
theorem AlS.below {w0 : World} {ov : Value} {L : List Rm} {W W' : World} (hb : Below W.heap.size W W') (h : AlS w0 ov L W) : AlS w0 ov L W' := ⟨h.1.below hb, h.2.trans (hb.mono h.2.size)⟩
set_option maxRecDepth 100000 in
set_option maxHeartbeats 4000000 in
theorem ralone_any (v1 v2 : Value) (a b : List Rm) (ha1 : a.length ≤ 100000) (hb1 : b.length ≤ 100000) (hwb : WfRL b) (w : World) (h1 : RLies v1 a w) (h2 : RLies v2 b w) :
    Calls Tryd.prog 14 #[v1, v2] w (OwnRet KR w (a.filter fun r => !eqB b r)) := by
  obtain ⟨p1, c1, rfl⟩ := h1.1.form
  obtain ⟨p2, c2, rfl⟩ := h2.1.form
  have HL := Lib.hid (And.intro h1 h2)
  have HWB := Lib.hid hwb
  clear h1 h2 hwb
  go_enter Tryd.func14, Tryd.ntmps14
  go_wp2_with fail
  go_loopg [5, 6] a.length (fun k ov i wr => ∃ r : Nat, r + k = a.length ∧ i = .int .i64 r ∧ AlS w ov ((a.take r).filter fun z => !eqB b z) wr)
  case atStart => exact ⟨0, by omega, rfl, KOwns.nil _ _, Below.refl _ _⟩
  case round =>
    obtain ⟨r, hr, rfl, hs⟩ := hrel
    have HS := Lib.hid hs
    obtain ⟨po, co, rfl⟩ := hs.1.form
    clear hs
    by_cases hlt : r < a.length
    · have hltI : (r : Int) < (a.length : Int) := by omega
      have hdI : decide ((r : Int) < (a.length : Int)) = true := decide_eq_true hltI
      obtain ⟨x, hx⟩ := lt_some hlt
      obtain ⟨b1, o1, rfl, _⟩ := HL.out.1.1.at hx
      have HX := Lib.hid hx
      clear hx
      obtain ⟨L, hL⟩ : ∃ L, L = (a.take r).filter fun z => !eqB b z := ⟨_, rfl⟩
      rw [← hL] at HS ⊢
      have HLL := Lib.hid hL
      have hLl : L.length ≤ 100000 := by
        have := List.length_filter_le (fun z => !eqB b z) (a.take r)
        rw [← hL, List.length_take] at this
        omega
      clear hL
      go_wp2_with fail
      generalize wr = WX at *
      go_loopg [7, 8] b.length (fun kk y j wr => ∃ (c : Nat) (yb : Bool), c + kk = b.length ∧ j = .int .i64 c ∧ y = .bool yb ∧ yb = eqB (b.take c) x ∧ AlS w (.slice po L.length co) L wr)
      case atStart => exact ⟨0, false, by omega, rfl, rfl, rfl, HS.out⟩
      case round =>
        clear HS
        obtain ⟨c, yb, hck, rfl, rfl, hyb, hs⟩ := hrel
        have HYB := Lib.hid hyb
        have HS := Lib.hid hs
        clear hyb hs
        have hcl : c ≤ b.length := by omega
        by_cases hcB : c < b.length
        · have hcI : (c : Int) < (b.length : Int) := by omega
          obtain ⟨y, hy⟩ := lt_some hcB
          obtain ⟨b2, o2, rfl, _⟩ := HL.out.2.1.at hy
          have HY := Lib.hid hy
          have HN := Lib.hid (eqB_snoc (x := x) hy)
          clear hy
          cases yb
          · go_upto_region 9 with fail
            refine wp_region_held_drew (S := AlS w (.slice po L.length co) L) (by kernel_rfl) (AlS.below (Below.refl _ _).drew HS.out) (fun hS => ?_)
            clear HS
            generalize wr.drew = W at *
            refine seqRead 0 (v := _) rfl (by kernel_rfl) (by kernel_rfl) (by kernel_rfl) (fun _ _ _ h => h) rfl (fun w hSw => by go_simp <;> with_reducible rfl) hS ?_
            try simp only [Act.put, List.setIfInBounds_toArray, List.set_cons_zero, List.set_cons_succ]
            refine seqRead 1 (v := _) rfl (by kernel_rfl) (by kernel_rfl) (by kernel_rfl) (fun _ _ _ h => h) rfl (fun w hSw => by go_simp <;> with_reducible rfl) hS ?_
            try simp only [Act.put, List.setIfInBounds_toArray, List.set_cons_zero, List.set_cons_succ]
            refine seqRead 2 (v := _) rfl (by kernel_rfl) (by kernel_rfl) (by kernel_rfl) (fun _ _ _ h => h) rfl (fun w hSw => by go_simp <;> with_reducible rfl) hS ?_
            try simp only [Act.put, List.setIfInBounds_toArray, List.set_cons_zero, List.set_cons_succ]
            refine seqRead 3 (v := _) rfl (by kernel_rfl) (by kernel_rfl) (by kernel_rfl) (fun _ _ _ h => h) rfl (fun w hSw => by go_simp <;> with_reducible rfl) hS ?_
            try simp only [Act.put, List.setIfInBounds_toArray, List.set_cons_zero, List.set_cons_succ]
            refine seqRead 4 (v := _) rfl (by kernel_rfl) (by kernel_rfl) (by kernel_rfl) (fun _ _ _ h => h) rfl (fun w hSw => by go_simp <;> with_reducible rfl) hS ?_
            try simp only [Act.put, List.setIfInBounds_toArray, List.set_cons_zero, List.set_cons_succ]
            refine seqRead 5 (v := _) rfl (by kernel_rfl) (by kernel_rfl) (by kernel_rfl) (fun _ _ _ h => h) rfl (fun w hSw => execRow rfl b1 (o1 + r * 32) rfl (rcl x) _ ((HL.out.1.below hSw.2).1.at' HX.out) Tryd.underlying51 rfl infoR) hS ?_
            try simp only [Act.put, List.setIfInBounds_toArray, List.set_cons_zero, List.set_cons_succ]
            refine seqRead 6 (v := _) rfl (by kernel_rfl) (by kernel_rfl) (by kernel_rfl) (fun _ _ _ h => h) rfl (fun w hSw => by go_simp <;> with_reducible rfl) hS ?_
            try simp only [Act.put, List.setIfInBounds_toArray, List.set_cons_zero, List.set_cons_succ]
            refine seqRead 7 (v := _) rfl (by kernel_rfl) (by kernel_rfl) (by kernel_rfl) (fun _ _ _ h => h) rfl (fun w hSw => by go_simp <;> with_reducible rfl) hS ?_
            try simp only [Act.put, List.setIfInBounds_toArray, List.set_cons_zero, List.set_cons_succ]
            refine seqRead 8 (v := _) rfl (by kernel_rfl) (by kernel_rfl) (by kernel_rfl) (fun _ _ _ h => h) rfl (fun w hSw => by go_simp <;> with_reducible rfl) hS ?_
            try simp only [Act.put, List.setIfInBounds_toArray, List.set_cons_zero, List.set_cons_succ]
            refine seqRead 9 (v := _) rfl (by kernel_rfl) (by kernel_rfl) (by kernel_rfl) (fun _ _ _ h => h) rfl (fun w hSw => execRow rfl b2 (o2 + c * 32) rfl (rcl y) _ ((HL.out.2.below hSw.2).1.at' HY.out) Tryd.underlying51 rfl infoR) hS ?_
            try simp only [Act.put, List.setIfInBounds_toArray, List.set_cons_zero, List.set_cons_succ]
            refine seqCall 10 rfl (by kernel_rfl) rfl (fun K hK => ?_)
            go_simp
            refine (requalR_any x y (HWB.out.at HY.out).len _ ((HL.out.1.below hS.2).acts HX.out) ((HL.out.2.below hS.2).acts HY.out)).mono ?_
            rintro e w3 ⟨rfl, hw3⟩
            refine hK.out _ _ (AlS.below hw3 hS) (fun hS => ?_)
            clear hK K hw3
            try simp only [Act.put, List.setIfInBounds_toArray, List.set_cons_zero, List.set_cons_succ]
            refine seqRead 11 (v := _) rfl (by kernel_rfl) (by kernel_rfl) (by kernel_rfl) (fun _ _ _ h => h) rfl (fun w hSw => by go_simp <;> with_reducible rfl) hS ?_
            try simp only [Act.put, List.setIfInBounds_toArray, List.set_cons_zero, List.set_cons_succ]
            refine seqRead 12 (v := _) rfl (by kernel_rfl) (by kernel_rfl) (by kernel_rfl) (fun _ _ _ h => h) rfl (fun w hSw => by go_simp <;> with_reducible rfl) hS ?_
            try simp only [Act.put, List.setIfInBounds_toArray, List.set_cons_zero, List.set_cons_succ]
            refine seqDone (by kernel_rfl) ?_
            have HS1 := Lib.hid hS
            clear hS
            go_wp2_with fail
            go_roundg (b.length - (c + 1))
            case measure => omega
            case rel => exact ⟨c + 1, _, by omega, by go_num, rfl, by rw [HN.out, ← HYB.out, Bool.false_or], HS1.out⟩
          · go_upto_region 9 with fail
            refine wp_region_held_drew (S := AlS w (.slice po L.length co) L) (by kernel_rfl) (AlS.below (Below.refl _ _).drew HS.out) (fun hS => ?_)
            clear HS
            generalize wr.drew = W at *
            refine seqRead 0 (v := _) rfl (by kernel_rfl) (by kernel_rfl) (by kernel_rfl) (fun _ _ _ h => h) rfl (fun w hSw => by go_simp <;> with_reducible rfl) hS ?_
            try simp only [Act.put, List.setIfInBounds_toArray, List.set_cons_zero, List.set_cons_succ]
            refine seqRead 1 (v := _) rfl (by kernel_rfl) (by kernel_rfl) (by kernel_rfl) (fun _ _ _ h => h) rfl (fun w hSw => by go_simp <;> with_reducible rfl) hS ?_
            try simp only [Act.put, List.setIfInBounds_toArray, List.set_cons_zero, List.set_cons_succ]
            refine seqSkip 2 rfl (by kernel_rfl) (by kernel_rfl) (by kernel_rfl) (fun _ _ _ h => h) rfl hS ?_
            try simp only [Act.put, List.setIfInBounds_toArray, List.set_cons_zero, List.set_cons_succ]
            refine seqSkip 3 rfl (by kernel_rfl) (by kernel_rfl) (by kernel_rfl) (fun _ _ _ h => h) rfl hS ?_
            try simp only [Act.put, List.setIfInBounds_toArray, List.set_cons_zero, List.set_cons_succ]
            refine seqSkip 4 rfl (by kernel_rfl) (by kernel_rfl) (by kernel_rfl) (fun _ _ _ h => h) rfl hS ?_
            try simp only [Act.put, List.setIfInBounds_toArray, List.set_cons_zero, List.set_cons_succ]
            refine seqSkip 5 rfl (by kernel_rfl) (by kernel_rfl) (by kernel_rfl) (fun _ _ _ h => h) rfl hS ?_
            try simp only [Act.put, List.setIfInBounds_toArray, List.set_cons_zero, List.set_cons_succ]
            refine seqSkip 6 rfl (by kernel_rfl) (by kernel_rfl) (by kernel_rfl) (fun _ _ _ h => h) rfl hS ?_
            try simp only [Act.put, List.setIfInBounds_toArray, List.set_cons_zero, List.set_cons_succ]
            refine seqSkip 7 rfl (by kernel_rfl) (by kernel_rfl) (by kernel_rfl) (fun _ _ _ h => h) rfl hS ?_
            try simp only [Act.put, List.setIfInBounds_toArray, List.set_cons_zero, List.set_cons_succ]
            refine seqSkip 8 rfl (by kernel_rfl) (by kernel_rfl) (by kernel_rfl) (fun _ _ _ h => h) rfl hS ?_
            try simp only [Act.put, List.setIfInBounds_toArray, List.set_cons_zero, List.set_cons_succ]
            refine seqSkip 9 rfl (by kernel_rfl) (by kernel_rfl) (by kernel_rfl) (fun _ _ _ h => h) rfl hS ?_
            try simp only [Act.put, List.setIfInBounds_toArray, List.set_cons_zero, List.set_cons_succ]
            refine seqSkip 10 rfl (by kernel_rfl) (by kernel_rfl) (by kernel_rfl) (fun _ _ _ h => h) rfl hS ?_
            try simp only [Act.put, List.setIfInBounds_toArray, List.set_cons_zero, List.set_cons_succ]
            refine seqRead 11 (v := _) rfl (by kernel_rfl) (by kernel_rfl) (by kernel_rfl) (fun _ _ _ h => h) rfl (fun w hSw => by go_simp <;> with_reducible rfl) hS ?_
            try simp only [Act.put, List.setIfInBounds_toArray, List.set_cons_zero, List.set_cons_succ]
            refine seqRead 12 (v := _) rfl (by kernel_rfl) (by kernel_rfl) (by kernel_rfl) (fun _ _ _ h => h) rfl (fun w hSw => by go_simp <;> with_reducible rfl) hS ?_
            try simp only [Act.put, List.setIfInBounds_toArray, List.set_cons_zero, List.set_cons_succ]
            refine seqDone (by kernel_rfl) ?_
            have HS1 := Lib.hid hS
            clear hS
            go_wp2_with fail
            go_roundg (b.length - (c + 1))
            case measure => omega
            case rel => exact ⟨c + 1, true, by omega, by go_num, rfl, by rw [HN.out, ← HYB.out, Bool.true_or], HS1.out⟩
        · have hcI : ¬ (c : Int) < (b.length : Int) := by omega
          obtain rfl : c = b.length := by omega
          have HYC := Lib.hid (show yb = eqB b x by rw [HYB.out, List.take_length])
          have HFS := Lib.hid (filt_snoc (b := b) HX.out)
          cases yb
          · have HRG := Lib.hid (show wr.rangeAt b1 (o1 + r * 32) (rcl x) from (HL.out.1.below HS.out.2).1.at' HX.out)
            have HO := Lib.hid (HS.out.1.below (below1 wr (.cells (rca x) KR.T)))
            have HB := Lib.hid (HS.out.2.trans ((below1 wr (.cells (rca x) KR.T)).mono HS.out.2.size))
            have HK := Lib.hid (Blk.klies (K := KR) (l := [x]) (Blk.new wr (rca x) KR.T) okR rfl)
            have HLE := Lib.hid (show L.length + [x].length ≤ 1000000 by simp; omega)
            go_wp2_with (first
              | (refine wpList_load_mid rfl 51 _ rfl b1 (o1 + r * 32) rfl (rcl x) _ HRG.out Tryd.underlying51 rfl infoR ?_)
              | (refine kbuildOne KR okR #[Value.int IntKind.u64 0, Value.int IntKind.u64 0, Value.int IntKind.u64 0, Value.int IntKind.u64 0, Value.int IntKind.u64 0, Value.int IntKind.u64 0, Value.int IntKind.u64 0, Value.int IntKind.u64 0, Value.int IntKind.u64 0, Value.int IntKind.u64 0, Value.int IntKind.u64 0, Value.int IntKind.u64 0, Value.int IntKind.u64 0, Value.int IntKind.u64 0, Value.int IntKind.u64 0, Value.int IntKind.u64 0, Value.int IntKind.u64 0, Value.int IntKind.u64 0, Value.int IntKind.u64 0, Value.int IntKind.u64 0, Value.int IntKind.u64 0, Value.int IntKind.u64 0, Value.int IntKind.u64 0, Value.int IntKind.u64 0, Value.int IntKind.i64 0, Value.slice none 0 0, Value.int IntKind.i64 0, Value.int IntKind.i64 0, Value.int IntKind.i64 0, Value.int IntKind.i64 0, Value.int IntKind.i64 0, Value.int IntKind.i64 0] zeroR rfl _ rfl (rca x) rfl (by decide) (fillOne x) ?_)
              | (refine kappend KR okR rfl _ _ rfl w.heap.size _ L [x] rfl HO.out _ rfl HK.out HB.out.size HLE.out (fun v' w' ho hg => ?_); refine Hid.out ?_))
            have HO2 := Lib.hid ho
            have HB2 := Lib.hid (kbelowOwn HB.out HO.out (Nat.le_refl _) hg)
            clear ho hg HO HB HK HRG HS
            refine Lib.hid ?_
            go_wp2_with fail
            go_roundg (a.length - (r + 1))
            case measure => omega
            case rel =>
              refine ⟨r + 1, by omega, by go_num, ?_, HB2.out⟩
              rw [HFS.out, ← HLL.out, ← HYC.out]
              exact HO2.out
          · go_wp2_with fail
            go_roundg (a.length - (r + 1))
            case measure => omega
            case rel =>
              refine ⟨r + 1, by omega, by go_num, ?_, HS.out.2⟩
              rw [HFS.out, ← HLL.out, ← HYC.out]
              simpa using HS.out.1
    · have hltI : ¬ (r : Int) < (a.length : Int) := by omega
      obtain rfl : r = a.length := by omega
      go_wp2_with fail
      go_ret
      refine ⟨_, rfl, ?_, HS.out.2⟩
      have := HS.out.1
      simp only [List.take_length] at this
      exact this
/-- what the reference's Swap gives -/
def RswRet (w : World) (us gs cs : List Ru) (e : Ending) (w' : World) : Prop := ∃ v L, e = .returned (.tuple #[v, .int .i64 (swapE us gs cs)]) ∧ L.map (·.u) = swapV us gs cs ∧ RLies v L w' ∧ Below w.heap.size w w'
theorem RswRet.no {w W : World} {us gs cs : List Ru} {n : Int} (h : swapE us gs cs = n) (hn : n ≠ 0) (hb : Below w.heap.size w W) : RswRet w us gs cs (.returned (.tuple #[.slice none 0 0, .int .i64 n])) W :=
  ⟨.slice none 0 0, [], by rw [h], by unfold swapV; rw [if_neg (by rw [h]; exact hn)]; rfl, ⟨.inl ⟨rfl, rfl⟩, fun y hy => (by cases hy)⟩, hb⟩
/-- the three lists, and what is left -/
def RvS (w0 : World) (v : Value) (l : List Rm) (vg : Value) (g : List Rm) (vc : Value) (c : List Rm) (vL : Value) (L : List Rm) (W : World) : Prop := SwS w0 v l vg g vc c W ∧ KLies KR vL L W
theorem RvS.below {w0 : World} {v vg vc vL : Value} {l g c L : List Rm} {W W' : World} (hb : Below W.heap.size W W') (h : RvS w0 v l vg g vc c vL L W) : RvS w0 v l vg g vc c vL L W' := ⟨SwS.below hb h.1, h.2.below okR hb⟩
theorem clash_yes {L c : List Rm} {x y : Rm} (hx : x ∈ L) (hy : y ∈ c) (h : keyB x.u y.u = true) : clash (L.map (·.u)) (c.map (·.u)) = true := by
  unfold clash
  exact List.any_eq_true.2 ⟨x.u, List.mem_map_of_mem hx, List.any_eq_true.2 ⟨y.u, List.mem_map_of_mem hy, h⟩⟩
theorem clash_no {L c : List Rm} (h : ∀ x ∈ L, ∀ y ∈ c, keyB x.u y.u = false) : clash (L.map (·.u)) (c.map (·.u)) = false := by
  cases hc : clash (L.map (·.u)) (c.map (·.u))
  · rfl
  · unfold clash at hc
    obtain ⟨a, ha, hc⟩ := List.any_eq_true.1 hc
    obtain ⟨b, hb, hc⟩ := List.any_eq_true.1 hc
    obtain ⟨x, hx, rfl⟩ := List.mem_map.1 ha
    obtain ⟨y, hy, rfl⟩ := List.mem_map.1 hb
    rw [h x hx y hy] at hc
    cases hc
set_option maxRecDepth 100000 in
set_option maxHeartbeats 4000000 in
theorem rswap_any (v vg vc : Value) (l g c : List Rm) (hl1 : l.length ≤ 1000) (hg1 : g.length ≤ 1000) (hc1 : c.length ≤ 1000) (hwl : WfRL l) (hwg : WfRL g) (hwc : WfRL c) (w : World) (hl : RLies v l w) (hg : RLies vg g w) (hc : RLies vc c w) (ht : Tab w) (hz : 0 < w.heap.size) :
    Calls Tryd.prog 15 #[v, vg, vc] w (RswRet w (l.map (·.u)) (g.map (·.u)) (c.map (·.u))) := by
  obtain ⟨p, cap, rfl⟩ := hl.1.form
  obtain ⟨pg, capg, rfl⟩ := hg.1.form
  obtain ⟨pc, capc, rfl⟩ := hc.1.form
  have HS := Lib.hid (show SwS w (.slice p l.length cap) l (.slice pg g.length capg) g (.slice pc c.length capc) c w from ⟨hl, hg, hc, Env.start ht hz⟩)
  have HT1 := Lib.hid (rtable_b _ l (by omega) hwl w hl)
  have HTg := Lib.hid (fun W (hS : SwS w (.slice p l.length cap) l (.slice pg g.length capg) g (.slice pc c.length capc) c W) => rtable_b _ g (by omega) hwg W hS.2.1)
  have HTc := Lib.hid (fun W (hS : SwS w (.slice p l.length cap) l (.slice pg g.length capg) g (.slice pc c.length capc) c W) => rtable_b _ c (by omega) hwc W hS.2.2.1)
  rw [tabB_tabU] at HT1 HTg HTc
  have HWL := Lib.hid hwl
  have HWG := Lib.hid hwg
  have HWC := Lib.hid hwc
  obtain ⟨us, hus⟩ : ∃ us, us = l.map (·.u) := ⟨_, rfl⟩
  obtain ⟨gs, hgs⟩ : ∃ gs, gs = g.map (·.u) := ⟨_, rfl⟩
  obtain ⟨cs, hcs⟩ : ∃ cs, cs = c.map (·.u) := ⟨_, rfl⟩
  rw [← hus] at HT1 ⊢
  rw [← hgs] at HTg ⊢
  rw [← hcs] at HTc ⊢
  have HUS := Lib.hid hus
  have HGS := Lib.hid hgs
  have HCS := Lib.hid hcs
  clear hl hg hc hwl hwg hwc ht hus hgs hcs
  cases h1 : tabU us
  · rw [h1] at HT1
    have HR := Lib.hid (swapE_form (us := us) (gs := gs) (cs := cs) (by rw [h1]; rfl))
    clear h1 HTg HTc
    go_enter Tryd.func15, Tryd.ntmps15
    go_wp2_with (go_at_call 10; refine HT1.out.mono ?_; rintro e w1 ⟨rfl, hw1⟩)
    go_ret2
    exact RswRet.no HR.out (by decide) (HS.out.2.2.2.below hw1).kept
  rw [h1] at HT1
  go_enter Tryd.func15, Tryd.ntmps15
  go_wp2_with (go_at_call 10; refine HT1.out.mono ?_; rintro e w1 ⟨rfl, hw1⟩; refine Hid.out ?_)
  have HS1 := Lib.hid (SwS.below hw1 HS.out)
  have HT2 := Lib.hid (HTg.out w1 HS1.out)
  have H1 := Lib.hid h1
  clear hw1 HT1 HTg HS h1
  cases h2 : tabU gs
  · rw [h2] at HT2
    have HR := Lib.hid (swapE_form (us := us) (gs := gs) (cs := cs) (by rw [h2]; simp))
    clear h2 HTc
    refine Lib.hid ?_
    go_wp2_with (go_at_call 10; refine HT2.out.mono ?_; rintro e w2 ⟨rfl, hw2⟩)
    go_ret2
    exact RswRet.no HR.out (by decide) (HS1.out.2.2.2.below hw2).kept
  rw [h2] at HT2
  refine Lib.hid ?_
  go_wp2_with (go_at_call 10; refine HT2.out.mono ?_; rintro e w2 ⟨rfl, hw2⟩; refine Hid.out ?_)
  have HS2 := Lib.hid (SwS.below hw2 HS1.out)
  have HT3 := Lib.hid (HTc.out w2 HS2.out)
  have H2 := Lib.hid h2
  clear hw2 HT2 HTc HS1 h2
  cases h3 : tabU cs
  · rw [h3] at HT3
    have HR := Lib.hid (swapE_form (us := us) (gs := gs) (cs := cs) (by rw [h3]; simp))
    clear h3
    refine Lib.hid ?_
    go_wp2_with (go_at_call 10; refine HT3.out.mono ?_; rintro e w3 ⟨rfl, hw3⟩)
    go_ret2
    exact RswRet.no HR.out (by decide) (HS2.out.2.2.2.below hw3).kept
  rw [h3] at HT3
  have HTT := Lib.hid (show (tabU us && (tabU gs && tabU cs)) = true by rw [H1.out, H2.out, h3]; rfl)
  clear h3
  refine Lib.hid ?_
  go_wp2_with (go_at_call 10; refine HT3.out.mono ?_; rintro e w3 ⟨rfl, hw3⟩; refine Hid.out ?_)
  have HS3 := Lib.hid (SwS.below hw3 HS2.out)
  have HA3 := Lib.hid (ralone_any _ _ g l (by omega) (by omega) HWL.out w3 HS3.out.2.1 HS3.out.1)
  obtain ⟨G, hG⟩ : ∃ G, G = g.filter fun r => !eqB l r := ⟨_, rfl⟩
  rw [← hG] at HA3
  have HGU := Lib.hid (show G.map (·.u) = aloneL gs us by rw [hG, filt_alone, ← HUS.out, ← HGS.out])
  clear hw3 HT3 HS2 hG
  refine Lib.hid ?_
  go_wp2_with (go_at_call 14; refine HA3.out.mono ?_; rintro e w4 ⟨v4, rfl, ho4, hw4⟩; refine Hid.out ?_)
  have HS4 := Lib.hid (SwS.below hw4 HS3.out)
  obtain ⟨p4, c4, rfl⟩ := ho4.form
  clear ho4 hw4 HA3 HS3
  obtain ⟨nG, hnG⟩ : ∃ n, n = G.length := ⟨_, rfl⟩
  have HNG := Lib.hid (show (aloneL gs us).isEmpty = decide (nG = 0) by
    rw [hnG, ← HGU.out]
    cases G <;> simp)
  rw [← hnG]
  clear hnG
  by_cases h4 : 0 < nG
  · have h4I : (0 : Int) < (nG : Int) := by omega
    have h4d : decide ((nG : Int) > 0) = true := decide_eq_true h4I
    have HR := Lib.hid (swapE_none HTT.out (show (aloneL gs us).isEmpty = false by rw [HNG.out]; exact decide_eq_false (by omega)))
    refine Lib.hid ?_
    go_wp2_with fail
    go_ret2
    exact RswRet.no HR.out (by decide) HS4.out.2.2.2.kept
  have h4I : ¬ (0 : Int) < (nG : Int) := by omega
  have H4 := Lib.hid (show (aloneL gs us).isEmpty = true by rw [HNG.out]; exact decide_eq_true (by omega))
  have HA5 := Lib.hid (ralone_any _ _ l g (by omega) (by omega) HWG.out w4 HS4.out.1 HS4.out.2.1)
  obtain ⟨L, hL⟩ : ∃ L, L = l.filter fun r => !eqB g r := ⟨_, rfl⟩
  rw [← hL] at HA5
  have HL := Lib.hid (show L.map (·.u) = aloneL us gs by rw [hL, filt_alone, ← HUS.out, ← HGS.out])
  have hLl : L.length ≤ 1000 := by rw [hL]; have := List.length_filter_le (fun r => !eqB g r) l; omega
  have HLm := Lib.hid (show ∀ r ∈ L, r ∈ l from fun r hr => by rw [hL] at hr; exact (List.mem_filter.1 hr).1)
  clear hL
  refine Lib.hid ?_
  go_wp2_with (go_at_call 14; refine HA5.out.mono ?_; rintro e w5 ⟨v5, rfl, ho5, hw5⟩; refine Hid.out ?_)
  obtain ⟨p5, c5, rfl⟩ := ho5.form
  have HV5 := Lib.hid (show RvS w (.slice p l.length cap) l (.slice pg g.length capg) g (.slice pc c.length capc) c (.slice p5 L.length c5) L w5 from ⟨SwS.below hw5 HS4.out, ho5.lies okR⟩)
  clear ho5 hw5 HA5 HS4
  refine Lib.hid ?_
  go_wp2_with fail
  go_loopg [9] L.length (fun k i wr => ∃ r : Nat, r + k = L.length ∧ i = .int .i64 r ∧ (∀ (j : Nat) x, j < r → L[j]? = some x → ∀ y ∈ c, keyB x.u y.u = false) ∧ RvS w (.slice p l.length cap) l (.slice pg g.length capg) g (.slice pc c.length capc) c (.slice p5 L.length c5) L wr)
  case atStart => exact ⟨0, by omega, rfl, fun j _ hj => absurd hj (Nat.not_lt_zero _), HV5.out⟩
  case round =>
    clear HV5
    obtain ⟨r, hr, rfl, hq, hs⟩ := hrel
    have HQ := Lib.hid hq
    have HS := Lib.hid hs
    clear hq hs
    by_cases hlt : r < L.length
    · have hltI : (r : Int) < (L.length : Int) := by omega
      have hdI : decide ((r : Int) < (L.length : Int)) = true := decide_eq_true hltI
      obtain ⟨x, hx⟩ := lt_some hlt
      obtain ⟨bl, ol, rfl, _⟩ := HS.out.2.at hx
      have HX := Lib.hid hx
      clear hx
      go_wp2_with fail
      generalize wr = WX at *
      go_loopg [10] c.length (fun kk j wr => ∃ c1 : Nat, c1 + kk = c.length ∧ j = .int .i64 c1 ∧ (∀ (j : Nat) y, j < c1 → c[j]? = some y → keyB x.u y.u = false) ∧ RvS w (.slice p l.length cap) l (.slice pg g.length capg) g (.slice pc c.length capc) c (.slice (some ⟨bl, ol, none⟩) L.length c5) L wr)
      case atStart => exact ⟨0, by omega, rfl, fun j _ hj => absurd hj (Nat.not_lt_zero _), HS.out⟩
      case round =>
        clear HS
        obtain ⟨c1, hck, rfl, hq, hs⟩ := hrel
        have HQ1 := Lib.hid hq
        have HS := Lib.hid hs
        clear hq hs
        have hc1l : c1 ≤ c.length := by omega
        by_cases hcB : c1 < c.length
        · have hcI : (c1 : Int) < (c.length : Int) := by omega
          obtain ⟨y, hy⟩ := lt_some hcB
          obtain ⟨bc, oc, rfl, _⟩ := HS.out.1.2.2.1.1.at hy
          have HY := Lib.hid hy
          clear hy
          go_upto_region 12 with fail
          refine wp_region_held_drew (S := RvS w (.slice p l.length cap) l (.slice pg g.length capg) g (.slice (some ⟨bc, oc, none⟩) c.length capc) c (.slice (some ⟨bl, ol, none⟩) L.length c5) L) (by kernel_rfl) (RvS.below (Below.refl _ _).drew HS.out) (fun hS => ?_)
          clear HS
          generalize wr.drew = W at *
          refine seqRead 0 (v := _) rfl (by kernel_rfl) (by kernel_rfl) (by kernel_rfl) (fun _ _ _ h => h) rfl (fun w hSw => by go_simp <;> with_reducible rfl) hS ?_
          try simp only [Act.put, List.setIfInBounds_toArray, List.set_cons_zero, List.set_cons_succ]
          refine seqRead 1 (v := _) rfl (by kernel_rfl) (by kernel_rfl) (by kernel_rfl) (fun _ _ _ h => h) rfl (fun w hSw => by go_simp <;> with_reducible rfl) hS ?_
          try simp only [Act.put, List.setIfInBounds_toArray, List.set_cons_zero, List.set_cons_succ]
          refine seqRead 2 (v := _) rfl (by kernel_rfl) (by kernel_rfl) (by kernel_rfl) (fun _ _ _ h => h) rfl (fun w hSw => by go_simp <;> with_reducible rfl) hS ?_
          try simp only [Act.put, List.setIfInBounds_toArray, List.set_cons_zero, List.set_cons_succ]
          refine seqRead 3 (v := _) rfl (by kernel_rfl) (by kernel_rfl) (by kernel_rfl) (fun _ _ _ h => h) rfl (fun w hSw => execRow rfl bl (ol + r * 32) rfl (rcl x) _ (hSw.2.at' HX.out) Tryd.underlying51 rfl infoR) hS ?_
          try simp only [Act.put, List.setIfInBounds_toArray, List.set_cons_zero, List.set_cons_succ]
          refine seqRead 4 (v := _) rfl (by kernel_rfl) (by kernel_rfl) (by kernel_rfl) (fun _ _ _ h => h) rfl (fun w hSw => by go_simp <;> with_reducible rfl) hS ?_
          try simp only [Act.put, List.setIfInBounds_toArray, List.set_cons_zero, List.set_cons_succ]
          refine seqRead 5 (v := _) rfl (by kernel_rfl) (by kernel_rfl) (by kernel_rfl) (fun _ _ _ h => h) rfl (fun w hSw => by go_simp <;> with_reducible rfl) hS ?_
          try simp only [Act.put, List.setIfInBounds_toArray, List.set_cons_zero, List.set_cons_succ]
          refine seqRead 6 (v := _) rfl (by kernel_rfl) (by kernel_rfl) (by kernel_rfl) (fun _ _ _ h => h) rfl (fun w hSw => by go_simp <;> with_reducible rfl) hS ?_
          try simp only [Act.put, List.setIfInBounds_toArray, List.set_cons_zero, List.set_cons_succ]
          refine seqRead 7 (v := _) rfl (by kernel_rfl) (by kernel_rfl) (by kernel_rfl) (fun _ _ _ h => h) rfl (fun w hSw => execRow rfl bc (oc + c1 * 32) rfl (rcl y) _ (hSw.1.2.2.1.1.at' HY.out) Tryd.underlying51 rfl infoR) hS ?_
          try simp only [Act.put, List.setIfInBounds_toArray, List.set_cons_zero, List.set_cons_succ]
          refine seqCall 8 rfl (by kernel_rfl) rfl (fun K hK => ?_)
          go_simp
          refine (rkey_any x y _).mono ?_
          rintro e w6 ⟨rfl, hw6⟩
          refine hK.out _ _ (RvS.below hw6 hS) (fun hS => ?_)
          clear hK K hw6
          try simp only [Act.put, List.setIfInBounds_toArray, List.set_cons_zero, List.set_cons_succ]
          refine seqDone (by kernel_rfl) ?_
          have HS1 := Lib.hid hS
          clear hS
          cases hk : keyB x.u y.u
          · have HK := Lib.hid hk
            clear hk
            go_wp2_with fail
            go_roundg (c.length - (c1 + 1))
            case measure => omega
            case rel =>
              refine ⟨c1 + 1, by omega, by go_num, fun j z hj hz => ?_, HS1.out⟩
              by_cases e : j = c1
              · subst e
                rw [HY.out] at hz
                rw [← Option.some.inj hz]; exact HK.out
              · exact HQ1.out j z (by omega) hz
          · have HR := Lib.hid (swapE_there HTT.out H4.out (by rw [← HL.out, HCS.out]; exact clash_yes (List.mem_of_getElem? HX.out) (List.mem_of_getElem? HY.out) hk))
            clear hk
            go_wp2_with fail
            go_ret2
            exact RswRet.no HR.out (by decide) HS1.out.1.2.2.2.kept
        · have hcI : ¬ (c1 : Int) < (c.length : Int) := by omega
          obtain rfl : c1 = c.length := by omega
          go_wp2_with fail
          go_roundg (L.length - (r + 1))
          case measure => omega
          case rel =>
            refine ⟨r + 1, by omega, by go_num, fun j z hj hz y hy => ?_, HS.out⟩
            by_cases e : j = r
            · subst e
              rw [HX.out] at hz
              obtain ⟨i, hi, rfl⟩ := List.mem_iff_getElem.1 hy
              rw [← Option.some.inj hz]
              exact HQ1.out i _ hi (List.getElem?_eq_getElem hi)
            · exact HQ.out j z (by omega) hz y hy
    · have hltI : ¬ (r : Int) < (L.length : Int) := by omega
      have HR := Lib.hid (swapE_ok HTT.out H4.out (by
        rw [← HL.out, HCS.out]
        refine clash_no fun x hx y hy => ?_
        obtain ⟨i, hi, rfl⟩ := List.mem_iff_getElem.1 hx
        exact HQ.out i _ (by omega) (List.getElem?_eq_getElem hi) y hy))
      clear HQ
      have HO := Lib.hid (KOwns.built (K := KR) wr wr.heap.size (Nat.le_refl _))
      have HB := Lib.hid (below1 wr (.cells #[] KR.T))
      have HV := Lib.hid (RvS.below HB.out HS.out)
      go_wp2_with (first
        | (refine kbuildNone KR okR rfl rfl ?_)
        | (refine kappend KR okR rfl _ _ rfl wr.heap.size _ [] L rfl HO.out _ rfl HV.out.2 HB.out.size (by simp; omega) (fun v' w' ho hg => ?_); refine Hid.out ?_))
      have HO1 := Lib.hid (show KOwns KR wr.heap.size v' L w' by simpa using ho)
      have HB1 := Lib.hid (kbelowOwn HB.out HO.out (Nat.le_refl _) hg)
      have HV1 := Lib.hid (RvS.below HB1.out HS.out)
      clear ho hg HO HB HV
      refine Lib.hid ?_
      go_wp2_with (refine kappend KR okR rfl _ _ rfl wr.heap.size _ L c rfl HO1.out _ rfl HV1.out.1.2.2.1.1 HB1.out.size (by omega) (fun v7 w7 ho hg => ?_); refine Hid.out ?_)
      have HB2 := Lib.hid (kbelowOwn HB1.out HO1.out (Nat.le_refl _) hg)
      have HV2 := Lib.hid (SwS.below HB2.out HS.out.1)
      have HR2 := Lib.hid (show RLies v7 (L ++ c) w7 from ⟨ho.lies okR, fun z hz => (List.mem_append.1 hz).elim (fun h => HV2.out.1.2 z (HLm.out z h)) (HV2.out.2.2.1.2 z)⟩)
      have HWa := Lib.hid (show WfRL (L ++ c) from fun z hz => (List.mem_append.1 hz).elim (fun h => HWL.out z (HLm.out z h)) (HWC.out z))
      have HSo := Lib.hid (rrsort_any v7 (L ++ c) (by rw [List.length_append]; omega) HWa.out w7 HR2.out HV2.out.2.2.2.tab HV2.out.2.2.2.lt)
      clear ho hg HO1 HB1 HV1 HS
      refine Lib.hid ?_
      go_wp2_with (go_at_call 27; refine HSo.out.mono ?_; rintro e w8 ⟨v8, rfl, hk8, hw8⟩; refine Hid.out ?_)
      have HK8 := Lib.hid hk8
      have HW8 := Lib.hid hw8
      clear hk8 hw8 HSo
      refine Lib.hid ?_
      go_wp2_with fail
      go_ret2
      refine ⟨_, tblM (L ++ c), by rw [HR.out]; rfl, ?_, ⟨HK8.out, fun z hz => (HR2.out.2 z (tblM_sub hz)).below HW8.out⟩, (HV2.out.2.2.2.below HW8.out).kept⟩
      unfold swapV swapL
      rw [if_pos HR.out, tblM_map, List.map_append, HL.out, ← HCS.out]
end Go.Proofs.YthnfaccenlkedaaDoor
