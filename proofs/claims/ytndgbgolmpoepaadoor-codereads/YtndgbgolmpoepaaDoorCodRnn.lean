/-
  The reference's Encode: of rules.
-/
import Derived.Test.YtndgbgolmpoepaaDoorCodRnh
namespace Go.Proofs.YtndgbgolmpoepaaDoor
set_option maxRecDepth 20000
open Go.RowKit

set_option maxHeartbeats 8000000 in
set_option maxRecDepth 100000 in
theorem renc_9 (g : Gm) (hk : g.kind = 9 ∨ g.kind = 10) (hs : sndMs g.u = true) (hw : WfMs g.u) (w0 : World) (hi : InG g w0) :
    Calls Tryd.prog 16 #[.agg (gca g)] w0 (OwnRet KB w0 (encMs g.u)) := by
  have HI := Lib.hid hi
  have HW := Lib.hid hw
  have HK := Lib.hid (show 1 ≤ g.kind ∧ g.kind ≤ 10 from snd_kindR hs)
  have HX := Lib.hid (show 0 ≤ g.txn ∧ g.txn < 18446744073709551616 by have : 0 ≤ g.txn ∧ g.txn ≤ 4294967295 := snd_txn hs; omega)
  have HSd := Lib.hid hs
  have R0 := Lib.hid (Blk.new w0 (gca g) 33)
  have K0 := Lib.hid (below1 w0 (.cells (gca g) 33))
  have hwt : IntKind.u64.wrap g.txn = g.txn := by rw [IntKind.wrap_u64]; have := HX.out; omega
  have HKD := Lib.hid hk
  clear hs hw hi hk
  go_enter Tryd.func16, Tryd.ntmps16
  go_upto_region 1 with fail
  generalize w0.alloc (.cells (gca g) 33) = W0 at *
  go_cut [3] (fun v W => OuS w0 (gca g) 33 v ([g.kind % 256] ++ numB 4 g.txn) W)
  case first =>
    refine wp_region_held_drew (S := fun W => Blk w0.heap.size (gca g) 33 W ∧ Below w0.heap.size w0 W) (by kernel_rfl) ⟨R0.out.drew, K0.out.drew⟩ (fun hS => ?_)
    clear R0 K0
    generalize W0.drew = W at *
    refine seqRead 0 (v := _) rfl (by kernel_rfl) (by kernel_rfl) (by kernel_rfl) (fun _ _ _ h => h) rfl (fun w hSw => by go_simp <;> with_reducible rfl) hS ?_
    try simp only [Act.put, List.setIfInBounds_toArray, List.set_cons_zero, List.set_cons_succ]
    refine seqRead 1 (v := _) rfl (by kernel_rfl) (by kernel_rfl) (by kernel_rfl) (fun _ _ _ h => h) rfl (fun w hSw => by have c : w.cell? ⟨w0.heap.size, 0, none⟩ = some (.int .i64 g.kind) := hSw.1.cellsG.kind; go_simp <;> with_reducible rfl) hS ?_
    try simp only [Act.put, List.setIfInBounds_toArray, List.set_cons_zero, List.set_cons_succ]
    refine seqRead 2 (v := _) rfl (by kernel_rfl) (by kernel_rfl) (by kernel_rfl) (fun _ _ _ h => h) rfl (fun w hSw => by go_simp <;> with_reducible rfl) hS ?_
    try simp only [Act.put, List.setIfInBounds_toArray, List.set_cons_zero, List.set_cons_succ]
    refine seqRead 4 (v := _) rfl (by kernel_rfl) (by kernel_rfl) (by kernel_rfl) (fun _ _ _ h => h) rfl (fun w hSw => by go_simp <;> with_reducible rfl) hS ?_
    try simp only [Act.put, List.setIfInBounds_toArray, List.set_cons_zero, List.set_cons_succ]
    refine seqRead 5 (v := _) rfl (by kernel_rfl) (by kernel_rfl) (by kernel_rfl) (fun _ _ _ h => h) rfl (fun w hSw => by have c : w.cell? ⟨w0.heap.size, 1, none⟩ = some (.int .i64 g.txn) := hSw.1.cellsG.txn; go_simp <;> with_reducible rfl) hS ?_
    try simp only [Act.put, List.setIfInBounds_toArray, List.set_cons_zero, List.set_cons_succ]
    refine seqRead 6 (v := _) rfl (by kernel_rfl) (by kernel_rfl) (by kernel_rfl) (fun _ _ _ h => h) rfl (fun w hSw => by go_simp <;> with_reducible rfl) hS ?_
    try simp only [Act.put, List.setIfInBounds_toArray, List.set_cons_zero, List.set_cons_succ]
    refine seqActs2 3 7 rfl rfl (by kernel_rfl) rfl (fun K hK => ?_) rfl (fun K hK => ?_)
    · refine kbuildByteWp (.tmp 9) rfl (g.kind % 256) rfl ?_
      have HA := Lib.hid (KOwns.mono (byteOwn W (g.kind % 256)) (show w0.heap.size + 1 ≤ W.heap.size from hS.1.lt))
      have hS1 : Blk w0.heap.size (gca g) 33 (W.alloc (.cells #[.int .u8 (g.kind % 256)] KB.T)) ∧ Below w0.heap.size w0 (W.alloc (.cells #[.int .u8 (g.kind % 256)] KB.T)) := ⟨hS.1.old _, hS.2.trans ((below1 _ _).mono hS.2.size)⟩
      refine hK.out _ _ hS1 (fun hS => ?_)
      clear hK K hS1
      generalize hv : W.alloc (.cells #[Value.int .u8 (g.kind % 256)] KB.T) = V1 at *
      clear hv
      try simp only [Act.put, List.setIfInBounds_toArray, List.set_cons_zero, List.set_cons_succ]
      refine seqCall 7 rfl (by kernel_rfl) rfl (fun K hK => ?_)
      go_simp
      refine (num_any g.txn HX.out.1 HX.out.2 4 (by decide) V1).mono ?_
      rintro e V2 ⟨u, rfl, hu, hb⟩
      have HU := Lib.hid (hu.lies okB)
      have HA := Lib.hid (HA.out.below hb)
      refine hK.out _ _ ⟨hS.1.below hb, hS.2.trans (hb.mono hS.2.size)⟩ (fun hS => ?_)
      clear hK K hu hb
      try simp only [Act.put, List.setIfInBounds_toArray, List.set_cons_zero, List.set_cons_succ]
      refine seqCall 8 rfl (by kernel_rfl) rfl (fun K hK => ?_)
      refine kappendWpB KB okB (.tmp 10) (.tmp 14) rfl (w0.heap.size + 1) _ [g.kind % 256] (numB 4 g.txn) rfl HA.out _ rfl HU.out hS.1.lt (by rw [numB_len]; show (1 + 4) * 1 ≤ _; omega) (fun v3 W3 ho hg => ?_)
      have HO := Lib.hid (show OuS w0 (gca g) 33 v3 ([g.kind % 256] ++ numB 4 g.txn) W3 from OuS.grow ⟨hS.1, HA.out, hS.2⟩ ho hg)
      refine hK.out _ _ ⟨HO.out.1, HO.out.2.2⟩ (fun hS => ?_)
      clear hK K ho hg HA HU
      try simp only [Act.put, List.setIfInBounds_toArray, List.set_cons_zero, List.set_cons_succ]
      refine seqRead 9 (v := _) rfl (by kernel_rfl) (by kernel_rfl) (by kernel_rfl) (fun _ _ _ h => h) rfl (fun w hSw => by go_simp <;> with_reducible rfl) hS ?_
      try simp only [Act.put, List.setIfInBounds_toArray, List.set_cons_zero, List.set_cons_succ]
      refine seqDone (by kernel_rfl) ?_
      go_wp2_with fail
      go_meet
      case rel => exact HO.out
    · go_simp
      refine (num_any g.txn HX.out.1 HX.out.2 4 (by decide) W).mono ?_
      rintro e V1 ⟨u, rfl, hu, hb⟩
      have HU := Lib.hid (hu.lies okB)
      refine hK.out _ _ ⟨hS.1.below hb, hS.2.trans (hb.mono hS.2.size)⟩ (fun hS => ?_)
      clear hK K hu hb
      try simp only [Act.put, List.setIfInBounds_toArray, List.set_cons_zero, List.set_cons_succ]
      refine seqCall 3 rfl (by kernel_rfl) rfl (fun K hK => ?_)
      refine kbuildByteWp (.tmp 9) rfl (g.kind % 256) rfl ?_
      have HA := Lib.hid (KOwns.mono (byteOwn V1 (g.kind % 256)) (show w0.heap.size + 1 ≤ V1.heap.size from hS.1.lt))
      have HU := Lib.hid (HU.out.below okB (below1 V1 (.cells #[.int .u8 (g.kind % 256)] KB.T)))
      have hS1 : Blk w0.heap.size (gca g) 33 (V1.alloc (.cells #[.int .u8 (g.kind % 256)] KB.T)) ∧ Below w0.heap.size w0 (V1.alloc (.cells #[.int .u8 (g.kind % 256)] KB.T)) := ⟨hS.1.old _, hS.2.trans ((below1 _ _).mono hS.2.size)⟩
      refine hK.out _ _ hS1 (fun hS => ?_)
      clear hK K hS1
      generalize hv : V1.alloc (.cells #[Value.int .u8 (g.kind % 256)] KB.T) = V2 at *
      clear hv
      try simp only [Act.put, List.setIfInBounds_toArray, List.set_cons_zero, List.set_cons_succ]
      refine seqCall 8 rfl (by kernel_rfl) rfl (fun K hK => ?_)
      refine kappendWpB KB okB (.tmp 10) (.tmp 14) rfl (w0.heap.size + 1) _ [g.kind % 256] (numB 4 g.txn) rfl HA.out _ rfl HU.out hS.1.lt (by rw [numB_len]; show (1 + 4) * 1 ≤ _; omega) (fun v3 W3 ho hg => ?_)
      have HO := Lib.hid (show OuS w0 (gca g) 33 v3 ([g.kind % 256] ++ numB 4 g.txn) W3 from OuS.grow ⟨hS.1, HA.out, hS.2⟩ ho hg)
      refine hK.out _ _ ⟨HO.out.1, HO.out.2.2⟩ (fun hS => ?_)
      clear hK K ho hg HA HU
      try simp only [Act.put, List.setIfInBounds_toArray, List.set_cons_zero, List.set_cons_succ]
      refine seqRead 9 (v := _) rfl (by kernel_rfl) (by kernel_rfl) (by kernel_rfl) (fun _ _ _ h => h) rfl (fun w hSw => by go_simp <;> with_reducible rfl) hS ?_
      try simp only [Act.put, List.setIfInBounds_toArray, List.set_cons_zero, List.set_cons_succ]
      refine seqDone (by kernel_rfl) ?_
      go_wp2_with fail
      go_meet
      case rel => exact HO.out
  case rest =>
    clear R0 K0 hwt
    have HS4 := Lib.hid hcut
    clear hcut
    generalize wc = V4 at *
    obtain ⟨P, hP⟩ : ∃ P, P = [g.kind % 256] ++ numB 4 g.txn := ⟨_, rfl⟩
    have HE := Lib.hid (show encMs g.u = P ++ bodyL g.u by rw [hP]; show numB 1 g.kind ++ (numB 4 g.txn ++ []) ++ bodyL g.u = _; rw [List.append_nil]; rfl)
    have HP := Lib.hid (show P.length = 5 by rw [hP, List.length_append, numB_len]; rfl)
    rw [← hP] at HS4
    clear hP
    have k0 := HS4.out.1.cellsG.kind
    have h9 := HKD.out
    have h1 : ¬ g.kind = 1 := by omega
    have h6 : ¬ g.kind = 6 := by omega
    have h8 : ¬ g.kind = 8 := by omega
    have e1 := eq_false0 h1
    have e6 := eq_false0 h6
    have e8 := eq_false0 h8
    · have hbody : bodyL g.u = numB 2 (g.rs.length : Int) ++ (g.rs.map (·.u)).flatMap encR := by
        unfold bodyL
        rw [if_neg (show ¬ g.u.kind = 1 from h1), if_neg (show ¬ g.u.kind = 6 from h6), if_neg (show ¬ g.u.kind = 8 from h8), if_pos (show g.u.kind = 9 ∨ g.u.kind = 10 from h9), show g.u.rules = g.rs.map (·.u) from rfl, List.length_map]
      rw [hbody, ← List.append_assoc] at HE
      have hse := sndk_9 HSd.out h9
      have HWR := Lib.hid (show WfRL g.rs from fun r hr => HW.out.rules _ (List.mem_map_of_mem hr))
      have HFR := Lib.hid (show ∀ r ∈ g.rs, FitRu r.u from fun r hr => fitRu_of (hse.2 _ (List.mem_map_of_mem hr)) (HWR.out r hr))
      have HRl := Lib.hid (show g.rs.length ≤ 65535 by have := hse.1; rw [show g.u.rules = g.rs.map (·.u) from rfl, List.length_map] at this; exact this)
      have hnl := HI.out.len
      clear hbody hse
      have f9 : (g.kind == 9) = true ∨ ((g.kind == 9) = false ∧ (g.kind == 10) = true) := by
        rcases h9 with h | h
        · exact .inl (by simpa using h)
        · exact .inr ⟨by rw [h]; rfl, by simpa using h⟩
      rcases f9 with f9 | ⟨f9, f10⟩
      · skip
        go_upto_region 20 with fail
        clear k0
        have k47 := HS4.out.1.cellsG.rules
        rw [hnl] at k47
        have hwl : IntKind.u64.wrap (g.rs.length : Int) = (g.rs.length : Int) := by rw [IntKind.wrap_u64]; have := HRl.out; omega
        have HC := Lib.hid (num_any (g.rs.length : Int) (by omega) (by have := HRl.out; omega) 2 (by decide) V4)
        go_wp2_with (go_at_call 32; refine HC.out.mono ?_; rintro e U4 ⟨u, rfl, hu, hb⟩; refine Hid.out ?_)
        have HA := Lib.hid (HS4.out.below hb)
        have HU := Lib.hid (hu.lies okB)
        clear hu hb HC HS4  k47
        refine Lib.hid ?_
        go_wp2_with (refine kappendP rfl _ _ rfl HA.out rfl rfl HU.out (by rw [HP.out, numB_len]; decide) (fun v5 V5 hO hR => ?_); refine Hid.out ?_)
        have HS5 := Lib.hid hO
        clear hO hR HA HU 
        refine Lib.hid ?_
        clear hwl
        go_wp2_with fail
        obtain ⟨Y, hY⟩ : ∃ Y, Y = P ++ numB 2 (g.rs.length : Int) := ⟨_, rfl⟩
        rw [← hY] at HS5
        have HYl := Lib.hid (show Y.length = 7 by rw [hY, List.length_append, numB_len, HP.out])
        have HY := Lib.hid hY
        clear hY
        go_loopg [5, 3] g.rs.length (fun q ix v wr => ∃ r : Nat, r + q = g.rs.length ∧ ix = .int .i64 r ∧ OuS w0 (gca g) 33 v (Y ++ ((g.rs.map (·.u)).take r).flatMap encR) wr)
        case atStart => exact ⟨0, by omega, rfl, by show OuS w0 (gca g) 33 _ (Y ++ []) _; rw [List.append_nil]; exact HS5.out⟩
        case round =>
          clear HS5
          obtain ⟨r, hr, rfl, hs⟩ := hrel
          have HSr := Lib.hid hs
          clear hs
          have k47 := HSr.out.1.cellsG.rules
          rw [hnl] at k47
          by_cases hlt : r < g.rs.length
          · have hltI : (r : Int) < (g.rs.length : Int) := by omega
            have hrb : r < 70000 := by have := HRl.out; omega
            obtain ⟨x, hx⟩ := lt_some hlt
            have HXr := Lib.hid hx
            obtain ⟨bb, oo, hq, hrg⟩ := (HI.out.2.below HSr.out.2.2).1.at hx
            rw [hq] at k47
            have HR := Lib.hid hrg
            have hlx : (((g.rs.map (·.u)).take r).flatMap encR).length ≤ r * 3100 := by
              have := flatM_le encR (c := 3100) ((g.rs.map (·.u)).take r) fun u hu => by
                obtain ⟨y, hy, rfl⟩ := List.mem_map.1 (List.mem_of_mem_take hu)
                exact encR_len _ (HFR.out y hy).2.1
              rw [List.length_take, List.length_map, Nat.min_eq_left (by omega)] at this
              exact this
            obtain ⟨Z, hZ⟩ : ∃ Z, Z = Y ++ ((g.rs.map (·.u)).take r).flatMap encR := ⟨_, rfl⟩
            have hZl : Z.length + 10000 ≤ 1000000000 := by rw [hZ, List.length_append, HYl.out]; have := HRl.out; omega
            have HZ := Lib.hid (show Y ++ (((g.rs.map (·.u)).take (r + 1)).flatMap encR) = Z ++ encR x.u by rw [flatM_snoc encR (get_map hx), ← List.append_assoc, ← hZ])
            rw [← hZ] at HSr
            clear hrg hx hZ hlx hq
            go_upto_region 25 with (first
              | (refine wpList_load_mid rfl 65 _ rfl bb (oo + r * 32) rfl (rcl x) _ HR.out Tryd.underlying65 rfl infoR ?_)
              | (refine wpList_store_row rfl 65 _ _ rfl wr.heap.size (rca x) rfl rfl 65 _ (heap_alloc_new _ _) (by kernel_rfl) rfl (rca_one _) ?_; rw [World.setRow_alloc_new]))
            clear k47
            have HS6 := Lib.hid (HSr.out.below (below1 wr (.cells (rca x) 65)))
            have R6 := Lib.hid (Blk.new wr (rca x) 65)
            clear HSr HR
            generalize wr.alloc (.cells (rca x) 65) = W5 at *
            generalize wr.heap.size = B6 at *
            have hx := List.mem_of_getElem? HXr.out
            have HRG := Lib.hid (rule_rng (HFR.out x hx).1)
            have HXw := Lib.hid (HWR.out x hx)
            have HXf := Lib.hid (HFR.out x hx).2
            have HXa := Lib.hid (encA_len x.u.acts)
            have hw1 : IntKind.u64.wrap x.u.hits = x.u.hits := by rw [IntKind.wrap_u64]; have := HRG.out; omega
            have hw2 : IntKind.u64.wrap x.u.quiet = x.u.quiet := by rw [IntKind.wrap_u64]; have := HRG.out; omega
            have hw3 : IntKind.u64.wrap x.u.age = x.u.age := by rw [IntKind.wrap_u64]; have := HRG.out; omega
            clear hx
            obtain ⟨_, c24, _, c26, c27, c28, _⟩ := R6.out.cellsR
            have QM := Lib.hid R6.out.cellsR.1
            have HC := Lib.hid (heads_any x.u.m HXw.out.m x.u.p x.u.idle x.u.hard x.u.owner HRG.out.1 HRG.out.2.1 HRG.out.2.2.1 W5)
            go_wp2_with (first
              | (refine wpList_load_mid rfl 27 _ rfl B6 0 rfl (cl x.u.m) _ QM.out Tryd.underlying27 rfl infoCube ?_)
              | (go_at_call 33; refine HC.out.mono ?_; rintro e U6 ⟨u, rfl, hu, hb⟩; refine Hid.out ?_))
            have HA := Lib.hid (HS6.out.below hb)
            have HU := Lib.hid (hu.lies okB)
            have RA := Lib.hid (R6.out.below hb)
            clear hu hb HC HS6 R6 QM c24 c26 c27 c28
            refine Lib.hid ?_
            go_wp2_with (refine kappendP rfl _ _ rfl HA.out rfl rfl HU.out (by simp only [List.length_append, numB_len, cubeN_len]; omega) (fun v7 V7 hO hR => ?_); refine Hid.out ?_)
            have HS7 := Lib.hid hO
            have R7 := Lib.hid (hR _ _ _ RA.out (by decide))
            clear hO hR HA HU RA
            refine Lib.hid ?_
            obtain ⟨_, _, _, _, _, _, cc1, _, _⟩ := R7.out.cellsR
            have HC := Lib.hid (num_any x.u.hits HRG.out.2.2.2.2.1.1 HRG.out.2.2.2.2.1.2 8 (by decide) V7)
            go_wp2_with (go_at_call 32; refine HC.out.mono ?_; rintro e U7 ⟨u, rfl, hu, hb⟩; refine Hid.out ?_)
            have HA := Lib.hid (HS7.out.below hb)
            have HU := Lib.hid (hu.lies okB)
            have RA := Lib.hid (R7.out.below hb)
            clear hu hb HC HS7 R7 cc1
            refine Lib.hid ?_
            go_wp2_with (refine kappendP rfl _ _ rfl HA.out rfl rfl HU.out (by simp only [List.length_append, numB_len, cubeN_len]; omega) (fun v8 V8 hO hR => ?_); refine Hid.out ?_)
            have HS8 := Lib.hid hO
            have R8 := Lib.hid (hR _ _ _ RA.out (by decide))
            clear hO hR HA HU RA
            refine Lib.hid ?_
            obtain ⟨_, _, _, _, _, _, _, cc1, _⟩ := R8.out.cellsR
            have HC := Lib.hid (num_any x.u.quiet HRG.out.2.2.2.2.2.1.1 HRG.out.2.2.2.2.2.1.2 8 (by decide) V8)
            go_wp2_with (go_at_call 32; refine HC.out.mono ?_; rintro e U8 ⟨u, rfl, hu, hb⟩; refine Hid.out ?_)
            have HA := Lib.hid (HS8.out.below hb)
            have HU := Lib.hid (hu.lies okB)
            have RA := Lib.hid (R8.out.below hb)
            clear hu hb HC HS8 R8 cc1
            refine Lib.hid ?_
            go_wp2_with (refine kappendP rfl _ _ rfl HA.out rfl rfl HU.out (by simp only [List.length_append, numB_len, cubeN_len]; omega) (fun v9 V9 hO hR => ?_); refine Hid.out ?_)
            have HS9 := Lib.hid hO
            have R9 := Lib.hid (hR _ _ _ RA.out (by decide))
            clear hO hR HA HU RA
            refine Lib.hid ?_
            obtain ⟨_, _, _, _, _, _, _, _, cc1⟩ := R9.out.cellsR
            have HC := Lib.hid (num_any x.u.age HRG.out.2.2.2.2.2.2.1 HRG.out.2.2.2.2.2.2.2 8 (by decide) V9)
            go_wp2_with (go_at_call 32; refine HC.out.mono ?_; rintro e U9 ⟨u, rfl, hu, hb⟩; refine Hid.out ?_)
            have HA := Lib.hid (HS9.out.below hb)
            have HU := Lib.hid (hu.lies okB)
            have RA := Lib.hid (R9.out.below hb)
            clear hu hb HC HS9 R9 cc1
            refine Lib.hid ?_
            go_wp2_with (refine kappendP rfl _ _ rfl HA.out rfl rfl HU.out (by simp only [List.length_append, numB_len, cubeN_len]; omega) (fun v10 V10 hO hR => ?_); refine Hid.out ?_)
            have HS10 := Lib.hid hO
            have R10 := Lib.hid (hR _ _ _ RA.out (by decide))
            clear hO hR HA HU RA
            refine Lib.hid ?_
            obtain ⟨_, _, cc1, _⟩ := R10.out.cellsR
            have HC := Lib.hid (eacts_any (.slice x.q x.n x.c) x.u.acts HXf.out V10 ((HI.out.2.2 x (List.mem_of_getElem? HXr.out)).below HS10.out.2.2))
            go_wp2_with (go_at_call 34; refine HC.out.mono ?_; rintro e U10 ⟨u, rfl, hu, hb⟩; refine Hid.out ?_)
            have HA := Lib.hid (HS10.out.below hb)
            have HU := Lib.hid (hu.lies okB)
            clear hu hb HC HS10  cc1
            refine Lib.hid ?_
            go_wp2_with (refine kappendP rfl _ _ rfl HA.out rfl rfl HU.out (by simp only [List.length_append, numB_len, cubeN_len]; have := HXa.out; have := HXf.out.1; omega) (fun v11 V11 hO hR => ?_); refine Hid.out ?_)
            have HS11 := Lib.hid hO
            clear hO hR HA HU 
            refine Lib.hid ?_
            go_wp2_with fail
            go_roundg (g.rs.length - (r + 1))
            case measure => omega
            case rel =>
              refine ⟨r + 1, by omega, by go_num, ?_⟩
              have h := HS11.out
              rw [HZ.out]
              unfold encR ruleN
              simp only [encN, encN_app, List.append_assoc, List.append_nil] at h ⊢
              exact h
          · have hltI : ¬ (r : Int) < (g.rs.length : Int) := by omega
            obtain rfl : r = g.rs.length := by omega
            go_wp2_with fail
            go_ret
            have h := HSr.out.ret
            rw [HE.out, ← HY.out]
            rw [List.take_of_length_le (by rw [List.length_map]; exact Nat.le_refl _)] at h
            exact h
      · skip
        go_upto_region 20 with fail
        clear k0
        have k47 := HS4.out.1.cellsG.rules
        rw [hnl] at k47
        have hwl : IntKind.u64.wrap (g.rs.length : Int) = (g.rs.length : Int) := by rw [IntKind.wrap_u64]; have := HRl.out; omega
        have HC := Lib.hid (num_any (g.rs.length : Int) (by omega) (by have := HRl.out; omega) 2 (by decide) V4)
        go_wp2_with (go_at_call 32; refine HC.out.mono ?_; rintro e U4 ⟨u, rfl, hu, hb⟩; refine Hid.out ?_)
        have HA := Lib.hid (HS4.out.below hb)
        have HU := Lib.hid (hu.lies okB)
        clear hu hb HC HS4  k47
        refine Lib.hid ?_
        go_wp2_with (refine kappendP rfl _ _ rfl HA.out rfl rfl HU.out (by rw [HP.out, numB_len]; decide) (fun v5 V5 hO hR => ?_); refine Hid.out ?_)
        have HS5 := Lib.hid hO
        clear hO hR HA HU 
        refine Lib.hid ?_
        clear hwl
        go_wp2_with fail
        obtain ⟨Y, hY⟩ : ∃ Y, Y = P ++ numB 2 (g.rs.length : Int) := ⟨_, rfl⟩
        rw [← hY] at HS5
        have HYl := Lib.hid (show Y.length = 7 by rw [hY, List.length_append, numB_len, HP.out])
        have HY := Lib.hid hY
        clear hY
        go_loopg [5, 3] g.rs.length (fun q ix v wr => ∃ r : Nat, r + q = g.rs.length ∧ ix = .int .i64 r ∧ OuS w0 (gca g) 33 v (Y ++ ((g.rs.map (·.u)).take r).flatMap encR) wr)
        case atStart => exact ⟨0, by omega, rfl, by show OuS w0 (gca g) 33 _ (Y ++ []) _; rw [List.append_nil]; exact HS5.out⟩
        case round =>
          clear HS5
          obtain ⟨r, hr, rfl, hs⟩ := hrel
          have HSr := Lib.hid hs
          clear hs
          have k47 := HSr.out.1.cellsG.rules
          rw [hnl] at k47
          by_cases hlt : r < g.rs.length
          · have hltI : (r : Int) < (g.rs.length : Int) := by omega
            have hrb : r < 70000 := by have := HRl.out; omega
            obtain ⟨x, hx⟩ := lt_some hlt
            have HXr := Lib.hid hx
            obtain ⟨bb, oo, hq, hrg⟩ := (HI.out.2.below HSr.out.2.2).1.at hx
            rw [hq] at k47
            have HR := Lib.hid hrg
            have hlx : (((g.rs.map (·.u)).take r).flatMap encR).length ≤ r * 3100 := by
              have := flatM_le encR (c := 3100) ((g.rs.map (·.u)).take r) fun u hu => by
                obtain ⟨y, hy, rfl⟩ := List.mem_map.1 (List.mem_of_mem_take hu)
                exact encR_len _ (HFR.out y hy).2.1
              rw [List.length_take, List.length_map, Nat.min_eq_left (by omega)] at this
              exact this
            obtain ⟨Z, hZ⟩ : ∃ Z, Z = Y ++ ((g.rs.map (·.u)).take r).flatMap encR := ⟨_, rfl⟩
            have hZl : Z.length + 10000 ≤ 1000000000 := by rw [hZ, List.length_append, HYl.out]; have := HRl.out; omega
            have HZ := Lib.hid (show Y ++ (((g.rs.map (·.u)).take (r + 1)).flatMap encR) = Z ++ encR x.u by rw [flatM_snoc encR (get_map hx), ← List.append_assoc, ← hZ])
            rw [← hZ] at HSr
            clear hrg hx hZ hlx hq
            go_upto_region 25 with (first
              | (refine wpList_load_mid rfl 65 _ rfl bb (oo + r * 32) rfl (rcl x) _ HR.out Tryd.underlying65 rfl infoR ?_)
              | (refine wpList_store_row rfl 65 _ _ rfl wr.heap.size (rca x) rfl rfl 65 _ (heap_alloc_new _ _) (by kernel_rfl) rfl (rca_one _) ?_; rw [World.setRow_alloc_new]))
            clear k47
            have HS6 := Lib.hid (HSr.out.below (below1 wr (.cells (rca x) 65)))
            have R6 := Lib.hid (Blk.new wr (rca x) 65)
            clear HSr HR
            generalize wr.alloc (.cells (rca x) 65) = W5 at *
            generalize wr.heap.size = B6 at *
            have hx := List.mem_of_getElem? HXr.out
            have HRG := Lib.hid (rule_rng (HFR.out x hx).1)
            have HXw := Lib.hid (HWR.out x hx)
            have HXf := Lib.hid (HFR.out x hx).2
            have HXa := Lib.hid (encA_len x.u.acts)
            have hw1 : IntKind.u64.wrap x.u.hits = x.u.hits := by rw [IntKind.wrap_u64]; have := HRG.out; omega
            have hw2 : IntKind.u64.wrap x.u.quiet = x.u.quiet := by rw [IntKind.wrap_u64]; have := HRG.out; omega
            have hw3 : IntKind.u64.wrap x.u.age = x.u.age := by rw [IntKind.wrap_u64]; have := HRG.out; omega
            clear hx
            obtain ⟨_, c24, _, c26, c27, c28, _⟩ := R6.out.cellsR
            have QM := Lib.hid R6.out.cellsR.1
            have HC := Lib.hid (heads_any x.u.m HXw.out.m x.u.p x.u.idle x.u.hard x.u.owner HRG.out.1 HRG.out.2.1 HRG.out.2.2.1 W5)
            go_wp2_with (first
              | (refine wpList_load_mid rfl 27 _ rfl B6 0 rfl (cl x.u.m) _ QM.out Tryd.underlying27 rfl infoCube ?_)
              | (go_at_call 33; refine HC.out.mono ?_; rintro e U6 ⟨u, rfl, hu, hb⟩; refine Hid.out ?_))
            have HA := Lib.hid (HS6.out.below hb)
            have HU := Lib.hid (hu.lies okB)
            have RA := Lib.hid (R6.out.below hb)
            clear hu hb HC HS6 R6 QM c24 c26 c27 c28
            refine Lib.hid ?_
            go_wp2_with (refine kappendP rfl _ _ rfl HA.out rfl rfl HU.out (by simp only [List.length_append, numB_len, cubeN_len]; omega) (fun v7 V7 hO hR => ?_); refine Hid.out ?_)
            have HS7 := Lib.hid hO
            have R7 := Lib.hid (hR _ _ _ RA.out (by decide))
            clear hO hR HA HU RA
            refine Lib.hid ?_
            obtain ⟨_, _, _, _, _, _, cc1, _, _⟩ := R7.out.cellsR
            have HC := Lib.hid (num_any x.u.hits HRG.out.2.2.2.2.1.1 HRG.out.2.2.2.2.1.2 8 (by decide) V7)
            go_wp2_with (go_at_call 32; refine HC.out.mono ?_; rintro e U7 ⟨u, rfl, hu, hb⟩; refine Hid.out ?_)
            have HA := Lib.hid (HS7.out.below hb)
            have HU := Lib.hid (hu.lies okB)
            have RA := Lib.hid (R7.out.below hb)
            clear hu hb HC HS7 R7 cc1
            refine Lib.hid ?_
            go_wp2_with (refine kappendP rfl _ _ rfl HA.out rfl rfl HU.out (by simp only [List.length_append, numB_len, cubeN_len]; omega) (fun v8 V8 hO hR => ?_); refine Hid.out ?_)
            have HS8 := Lib.hid hO
            have R8 := Lib.hid (hR _ _ _ RA.out (by decide))
            clear hO hR HA HU RA
            refine Lib.hid ?_
            obtain ⟨_, _, _, _, _, _, _, cc1, _⟩ := R8.out.cellsR
            have HC := Lib.hid (num_any x.u.quiet HRG.out.2.2.2.2.2.1.1 HRG.out.2.2.2.2.2.1.2 8 (by decide) V8)
            go_wp2_with (go_at_call 32; refine HC.out.mono ?_; rintro e U8 ⟨u, rfl, hu, hb⟩; refine Hid.out ?_)
            have HA := Lib.hid (HS8.out.below hb)
            have HU := Lib.hid (hu.lies okB)
            have RA := Lib.hid (R8.out.below hb)
            clear hu hb HC HS8 R8 cc1
            refine Lib.hid ?_
            go_wp2_with (refine kappendP rfl _ _ rfl HA.out rfl rfl HU.out (by simp only [List.length_append, numB_len, cubeN_len]; omega) (fun v9 V9 hO hR => ?_); refine Hid.out ?_)
            have HS9 := Lib.hid hO
            have R9 := Lib.hid (hR _ _ _ RA.out (by decide))
            clear hO hR HA HU RA
            refine Lib.hid ?_
            obtain ⟨_, _, _, _, _, _, _, _, cc1⟩ := R9.out.cellsR
            have HC := Lib.hid (num_any x.u.age HRG.out.2.2.2.2.2.2.1 HRG.out.2.2.2.2.2.2.2 8 (by decide) V9)
            go_wp2_with (go_at_call 32; refine HC.out.mono ?_; rintro e U9 ⟨u, rfl, hu, hb⟩; refine Hid.out ?_)
            have HA := Lib.hid (HS9.out.below hb)
            have HU := Lib.hid (hu.lies okB)
            have RA := Lib.hid (R9.out.below hb)
            clear hu hb HC HS9 R9 cc1
            refine Lib.hid ?_
            go_wp2_with (refine kappendP rfl _ _ rfl HA.out rfl rfl HU.out (by simp only [List.length_append, numB_len, cubeN_len]; omega) (fun v10 V10 hO hR => ?_); refine Hid.out ?_)
            have HS10 := Lib.hid hO
            have R10 := Lib.hid (hR _ _ _ RA.out (by decide))
            clear hO hR HA HU RA
            refine Lib.hid ?_
            obtain ⟨_, _, cc1, _⟩ := R10.out.cellsR
            have HC := Lib.hid (eacts_any (.slice x.q x.n x.c) x.u.acts HXf.out V10 ((HI.out.2.2 x (List.mem_of_getElem? HXr.out)).below HS10.out.2.2))
            go_wp2_with (go_at_call 34; refine HC.out.mono ?_; rintro e U10 ⟨u, rfl, hu, hb⟩; refine Hid.out ?_)
            have HA := Lib.hid (HS10.out.below hb)
            have HU := Lib.hid (hu.lies okB)
            clear hu hb HC HS10  cc1
            refine Lib.hid ?_
            go_wp2_with (refine kappendP rfl _ _ rfl HA.out rfl rfl HU.out (by simp only [List.length_append, numB_len, cubeN_len]; have := HXa.out; have := HXf.out.1; omega) (fun v11 V11 hO hR => ?_); refine Hid.out ?_)
            have HS11 := Lib.hid hO
            clear hO hR HA HU 
            refine Lib.hid ?_
            go_wp2_with fail
            go_roundg (g.rs.length - (r + 1))
            case measure => omega
            case rel =>
              refine ⟨r + 1, by omega, by go_num, ?_⟩
              have h := HS11.out
              rw [HZ.out]
              unfold encR ruleN
              simp only [encN, encN_app, List.append_assoc, List.append_nil] at h ⊢
              exact h
          · have hltI : ¬ (r : Int) < (g.rs.length : Int) := by omega
            obtain rfl : r = g.rs.length := by omega
            go_wp2_with fail
            go_ret
            have h := HSr.out.ret
            rw [HE.out, ← HY.out]
            rw [List.take_of_length_le (by rw [List.length_map]; exact Nat.le_refl _)] at h
            exact h
end Go.Proofs.YtndgbgolmpoepaaDoor
