/-
  The walk of Tick of package lapse.
-/
import Derived.Test.YtomnpfbebimpkaaGreatDoorLapTkM
namespace Go.Proofs.YtomnpfbebimpkaaGreatDoor
set_option maxRecDepth 20000
open Go.RowKit

set_option maxHeartbeats 1000000 in
theorem tick_any (v : Value) (l : List Rm) (hlen : l.length ≤ 100000) (hw : WfRL l) (n : Int) (w : World) (hl : RLies v l w) : Calls Tryz.prog 47 #[v, .int .i64 n] w (TickRet OwnA w (clampN n) (l.map (·.u))) := by
  obtain ⟨p, cap, rfl⟩ := hl.1.form
  have HC := Lib.hid (copy_any (.slice p l.length cap) l hlen hw w hl)
  have HW := Lib.hid hw
  clear hl hw
  have hmr := clamp_range n
  have HMM := Lib.hid (clamp_min n)
  generalize clampN n = m at *
  have hm0 := hmr.1
  have hm1 := hmr.2
  clear hmr
  go_enter Tryz.func47, Tryz.ntmps47
  go_upto_region 2 with fail
  rw [HMM.out]
  clear HMM
  go_wp2_with (go_at_call 35; refine HC.out.mono ?_; rintro e w1 ⟨g, L, rfl, hu, hc⟩; refine Hid.out ?_)
  have hLl : L.length = l.length := by have := congrArg List.length hu; rwa [List.length_map, List.length_map] at this
  have hL : L.length ≤ 100000 := by omega
  have HLL := Lib.hid hu
  have HWL := Lib.hid (WfUL.rl (WfUL.of HW.out) hu)
  have HK := Lib.hid hc.1
  have HOW := Lib.hid hc.2.1
  have hge : w.heap.size ≤ g := hc.2.2.2
  have HB1 := Lib.hid hc.2.2.1
  clear hu hc HC HW hLl
  refine Lib.hid ?_
  go_wp2_with fail
  go_loopg [4, 5, 14] L.length (fun k va vb i wr => ∃ (r : Nat) (A B : List Rm), r + k = L.length ∧ i = .int .i64 r ∧ A.map (·.u) = leftL m ((L.take r).map (·.u)) ∧ B.map (·.u) = goneL m ((L.take r).map (·.u)) ∧ A.length + B.length = r ∧ TkS (OwnA w.heap.size) w1 va A vb B wr)
  case atStart => exact ⟨0, [], [], by omega, rfl, rfl, rfl, rfl, TkS.start _ _⟩
  case round =>
    obtain ⟨r, A, B, hr, rfl, ha, hb, hab, hs⟩ := hrel
    have HA := Lib.hid ha
    have HB := Lib.hid hb
    have HS := Lib.hid hs
    have HAB := Lib.hid hab
    clear ha hb hs hab
    by_cases hlt : r < L.length
    · have hltI : (r : Int) < (L.length : Int) := by omega
      obtain ⟨x, hx⟩ := lt_some hlt
      have HR := Lib.hid (show wr.rangeAt g (r * 32) (rcl x) from (HK.out.below HS.out.kept).range hx)
      have HX := Lib.hid hx
      have HOx := Lib.hid (((HOW.out x (List.mem_of_getElem? hx)).below HS.out.kept).mono (show w.heap.size ≤ g + 1 by omega))
      have HWx := Lib.hid (HWL.out.at hx)
      clear hx
      go_upto_region 5 with (first
        | (refine wpList_load_mid rfl 88 _ rfl g (r * 32) rfl (rcl x) _ HR.out Tryz.underlying88 rfl infoR ?_)
        | (refine wpList_store_row rfl 88 _ _ rfl wr.heap.size (rca x) rfl rfl 88 _ (heap_alloc_new _ _) (by kernel_rfl) rfl (rca_one _) ?_; rw [World.setRow_alloc_new]))
      have RX := Lib.hid (Blk.new wr (rca x) 88)
      have HBW := Lib.hid (below1 wr (.cells (rca x) 88))
      clear HR
      generalize wr.alloc (.cells (rca x) 88) = W at *
      have k31 := RX.out.cellsR.2.2.2.2.2.2.2.2
      have P1 := Lib.hid (plus_any x.u.age m HWx.out.nums.2.2.2.2.2.2 hm0 hm1 W)
      go_upto_region 6 with (first
        | (go_at_call 81; refine P1.out.mono ?_; rintro e W ⟨rfl, rfl⟩)
        | (refine storeCell rfl 3 _ _ rfl wr.heap.size 31 (.int .i64 (moreI x.u.age m)) rfl rfl rfl (RX.out.there (by rw [rca_size]; decide)) infoInt ?_; refine Hid.out ?_))
      have R2 := Lib.hid (RX.out.age (moreI x.u.age m))
      have HBW2 := Lib.hid (HBW.out.setCell (Nat.le_refl _) (.int .i64 (moreI x.u.age m)) (p := ⟨wr.heap.size, 31, none⟩))
      clear RX HBW k31 P1
      generalize W.setCell ⟨wr.heap.size, 31, none⟩ (.int .i64 (moreI x.u.age m)) = W2 at *
      refine Lib.hid ?_
      have k30 := R2.out.cellsR.2.2.2.2.2.2.2.1
      have P2 := Lib.hid (plus_any x.u.quiet m HWx.out.nums.2.2.2.2.2.1 hm0 hm1 W2)
      go_upto_region 7 with (first
        | (go_at_call 81; refine P2.out.mono ?_; rintro e W2 ⟨rfl, rfl⟩)
        | (refine storeCell rfl 3 _ _ rfl wr.heap.size 30 (.int .i64 (moreI x.u.quiet m)) rfl rfl rfl (R2.out.there (by rw [rca_size]; decide)) infoInt ?_; refine Hid.out ?_))
      have R3 := Lib.hid (R2.out.quiet (moreI x.u.quiet m))
      have HBW3 := Lib.hid (HBW2.out.setCell (Nat.le_refl _) (.int .i64 (moreI x.u.quiet m)) (p := ⟨wr.heap.size, 30, none⟩))
      clear R2 HBW2 k30 P2
      generalize W2.setCell ⟨wr.heap.size, 30, none⟩ (.int .i64 (moreI x.u.quiet m)) = W3 at *
      obtain ⟨y, hy⟩ : ∃ y : Rm, y = ⟨tickU m x.u, x.q, x.n, x.c⟩ := ⟨_, rfl⟩
      have R4 := Lib.hid (show Blk wr.heap.size (rca y) 88 W3 by rw [hy]; exact R3.out)
      have HYU := Lib.hid (show y.u = tickU m x.u by rw [hy])
      have HO4 := Lib.hid (show OwnA w.heap.size y W3 by rw [hy]; exact OwnA.below HOx.out HBW3.out)
      have HS5 := Lib.hid (TkS.below (stab_own _) (below1 W3 (.cells (rca y) KR.T)) (TkS.below (stab_own _) HBW3.out HS.out))
      have HO5 := Lib.hid (HO4.out.below (below1 W3 (.cells (rca y) KR.T)))
      have HK5 := Lib.hid (Blk.klies (l := [y]) (Blk.new W3 (rca y) KR.T) okR (by simp [Kd.flat, rca]))
      clear hy R3 HBW3 HO4 HOx HWx HS
      obtain ⟨_, _, _, k26, k27, _, _, k30, k31⟩ := R4.out.cellsR
      obtain ⟨c1, hc1⟩ : ∃ c, c = (decide (0 < y.u.hard) && decide (y.u.hard ≤ y.u.age)) := ⟨_, rfl⟩
      obtain ⟨c2, hc2⟩ : ∃ c, c = (decide (0 < y.u.idle) && decide (y.u.idle ≤ y.u.quiet)) := ⟨_, rfl⟩
      have O1 := Lib.hid (over_any y.u.hard y.u.age)
      have O2 := Lib.hid (over_any y.u.idle y.u.quiet)
      rw [← hc1] at O1
      rw [← hc2] at O2
      have HG := Lib.hid (show goneB y.u = (c1 || c2) by unfold goneB; rw [hc1, hc2])
      clear hc1 hc2
      refine Lib.hid ?_
      cases c1
      · cases c2
        · go_wp2_with (go_at_call 82; refine (O1.out _).mono ?_; rintro e W3 ⟨rfl, rfl⟩; refine Hid.out ?_)
          clear O1
          refine Lib.hid ?_
          go_wp2_with (go_at_call 82; refine (O2.out _).mono ?_; rintro e W3 ⟨rfl, rfl⟩; refine Hid.out ?_)
          clear O2
          refine Lib.hid ?_
          go_wp2_with (first
            | (refine wpList_load_row rfl 88 _ rfl wr.heap.size rfl 88 (rca y) (0, 0) _ R4.out Tryz.underlying88 rfl infoR ?_)
            | (refine kbuildOne KR okR #[Value.int IntKind.u64 0, Value.int IntKind.u64 0, Value.int IntKind.u64 0, Value.int IntKind.u64 0, Value.int IntKind.u64 0, Value.int IntKind.u64 0, Value.int IntKind.u64 0, Value.int IntKind.u64 0, Value.int IntKind.u64 0, Value.int IntKind.u64 0, Value.int IntKind.u64 0, Value.int IntKind.u64 0, Value.int IntKind.u64 0, Value.int IntKind.u64 0, Value.int IntKind.u64 0, Value.int IntKind.u64 0, Value.int IntKind.u64 0, Value.int IntKind.u64 0, Value.int IntKind.u64 0, Value.int IntKind.u64 0, Value.int IntKind.u64 0, Value.int IntKind.u64 0, Value.int IntKind.u64 0, Value.int IntKind.u64 0, Value.int IntKind.i64 0, Value.slice none 0 0, Value.int IntKind.i64 0, Value.int IntKind.i64 0, Value.int IntKind.i64 0, Value.int IntKind.i64 0, Value.int IntKind.i64 0, Value.int IntKind.i64 0] zeroR rfl (.tmp 45) rfl (rca y) rfl (by decide) (fillOne y) ?_)
            | (refine kappendW KR okR rfl (.tmp 44) (.tmp 46) rfl w1.heap.size u4 A [y] rfl HS5.out.a _ rfl HK5.out HS5.out.kept.size (by have := HAB.out; simp; omega) (fun v6 w6 ho hg hn => ?_); refine Hid.out ?_))
          have HS6 := Lib.hid (TkS.push (stab_own _) HS5.out HO5.out ho hg hn)
          clear ho hg hn HS5 HO5 HK5 R4 k26 k27 k30 k31
          refine Lib.hid ?_
          go_wp2_with fail
          go_roundg (L.length - (r + 1))
          case measure => omega
          case rel =>
            refine ⟨r + 1, A ++ [y], B, by omega, by go_num, ?_, ?_, by have := HAB.out; simp; omega, HS6.out⟩
            · rw [take_map_succ HX.out, left_snoc, ← HYU.out, HG.out, List.map_append, HA.out]; simp
            · rw [take_map_succ HX.out, gone_snoc, ← HYU.out, HG.out, HB.out]; simp
        · go_wp2_with (go_at_call 82; refine (O1.out _).mono ?_; rintro e W3 ⟨rfl, rfl⟩; refine Hid.out ?_)
          clear O1
          refine Lib.hid ?_
          go_wp2_with (go_at_call 82; refine (O2.out _).mono ?_; rintro e W3 ⟨rfl, rfl⟩; refine Hid.out ?_)
          clear O2
          refine Lib.hid ?_
          go_wp2_with (first
            | (refine wpList_load_row rfl 88 _ rfl wr.heap.size rfl 88 (rca y) (0, 0) _ R4.out Tryz.underlying88 rfl infoR ?_)
            | (refine kbuildOne KR okR #[Value.int IntKind.u64 0, Value.int IntKind.u64 0, Value.int IntKind.u64 0, Value.int IntKind.u64 0, Value.int IntKind.u64 0, Value.int IntKind.u64 0, Value.int IntKind.u64 0, Value.int IntKind.u64 0, Value.int IntKind.u64 0, Value.int IntKind.u64 0, Value.int IntKind.u64 0, Value.int IntKind.u64 0, Value.int IntKind.u64 0, Value.int IntKind.u64 0, Value.int IntKind.u64 0, Value.int IntKind.u64 0, Value.int IntKind.u64 0, Value.int IntKind.u64 0, Value.int IntKind.u64 0, Value.int IntKind.u64 0, Value.int IntKind.u64 0, Value.int IntKind.u64 0, Value.int IntKind.u64 0, Value.int IntKind.u64 0, Value.int IntKind.i64 0, Value.slice none 0 0, Value.int IntKind.i64 0, Value.int IntKind.i64 0, Value.int IntKind.i64 0, Value.int IntKind.i64 0, Value.int IntKind.i64 0, Value.int IntKind.i64 0] zeroR rfl (.tmp 41) rfl (rca y) rfl (by decide) (fillOne y) ?_)
            | (refine kappendW KR okR rfl (.tmp 40) (.tmp 42) rfl w1.heap.size u5 B [y] rfl HS5.out.b _ rfl HK5.out HS5.out.kept.size (by have := HAB.out; simp; omega) (fun v6 w6 ho hg hn => ?_); refine Hid.out ?_))
          have HS6 := Lib.hid (TkS.symm (TkS.push (stab_own _) (TkS.symm HS5.out) HO5.out ho hg hn))
          clear ho hg hn HS5 HO5 HK5 R4 k26 k27 k30 k31
          refine Lib.hid ?_
          go_wp2_with fail
          go_roundg (L.length - (r + 1))
          case measure => omega
          case rel =>
            refine ⟨r + 1, A, B ++ [y], by omega, by go_num, ?_, ?_, by have := HAB.out; simp; omega, HS6.out⟩
            · rw [take_map_succ HX.out, left_snoc, ← HYU.out, HG.out, HA.out]; simp
            · rw [take_map_succ HX.out, gone_snoc, ← HYU.out, HG.out, List.map_append, HB.out]; simp
      · go_wp2_with (go_at_call 82; refine (O1.out _).mono ?_; rintro e W3 ⟨rfl, rfl⟩; refine Hid.out ?_)
        clear O1
        refine Lib.hid ?_
        go_wp2_with (first
          | (refine wpList_load_row rfl 88 _ rfl wr.heap.size rfl 88 (rca y) (0, 0) _ R4.out Tryz.underlying88 rfl infoR ?_)
          | (refine kbuildOne KR okR #[Value.int IntKind.u64 0, Value.int IntKind.u64 0, Value.int IntKind.u64 0, Value.int IntKind.u64 0, Value.int IntKind.u64 0, Value.int IntKind.u64 0, Value.int IntKind.u64 0, Value.int IntKind.u64 0, Value.int IntKind.u64 0, Value.int IntKind.u64 0, Value.int IntKind.u64 0, Value.int IntKind.u64 0, Value.int IntKind.u64 0, Value.int IntKind.u64 0, Value.int IntKind.u64 0, Value.int IntKind.u64 0, Value.int IntKind.u64 0, Value.int IntKind.u64 0, Value.int IntKind.u64 0, Value.int IntKind.u64 0, Value.int IntKind.u64 0, Value.int IntKind.u64 0, Value.int IntKind.u64 0, Value.int IntKind.u64 0, Value.int IntKind.i64 0, Value.slice none 0 0, Value.int IntKind.i64 0, Value.int IntKind.i64 0, Value.int IntKind.i64 0, Value.int IntKind.i64 0, Value.int IntKind.i64 0, Value.int IntKind.i64 0] zeroR rfl (.tmp 41) rfl (rca y) rfl (by decide) (fillOne y) ?_)
          | (refine kappendW KR okR rfl (.tmp 40) (.tmp 42) rfl w1.heap.size u5 B [y] rfl HS5.out.b _ rfl HK5.out HS5.out.kept.size (by have := HAB.out; simp; omega) (fun v6 w6 ho hg hn => ?_); refine Hid.out ?_))
        have HS6 := Lib.hid (TkS.symm (TkS.push (stab_own _) (TkS.symm HS5.out) HO5.out ho hg hn))
        clear ho hg hn HS5 HO5 HK5 R4 k26 k27 k30 k31
        refine Lib.hid ?_
        go_wp2_with fail
        go_roundg (L.length - (r + 1))
        case measure => omega
        case rel =>
          refine ⟨r + 1, A, B ++ [y], by omega, by go_num, ?_, ?_, by have := HAB.out; simp; omega, HS6.out⟩
          · rw [take_map_succ HX.out, left_snoc, ← HYU.out, HG.out, HA.out]; simp
          · rw [take_map_succ HX.out, gone_snoc, ← HYU.out, HG.out, List.map_append, HB.out]; simp
    · have hltI : ¬ (r : Int) < (L.length : Int) := by omega
      have hr' : r = L.length := by omega
      have HT := Lib.hid hr'
      clear hr'
      go_wp2_with fail
      go_ret2
      refine ⟨u4, u5, A, B, rfl, ?_, ?_, HS.out.mono HB1.out⟩
      · rw [HA.out, HT.out, List.take_length, HLL.out]
      · rw [HB.out, HT.out, List.take_length, HLL.out]
end Go.Proofs.YtomnpfbebimpkaaGreatDoor
