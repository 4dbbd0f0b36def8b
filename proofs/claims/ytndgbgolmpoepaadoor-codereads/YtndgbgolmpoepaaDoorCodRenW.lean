/-
  The reference's Encode: of all messages.
-/
import Derived.Test.YtndgbgolmpoepaaDoorCodRnf
import Derived.Test.YtndgbgolmpoepaaDoorCodRnn
namespace Go.Proofs.YtndgbgolmpoepaaDoor
set_option maxRecDepth 20000
open Go.RowKit

set_option maxHeartbeats 8000000 in
set_option maxRecDepth 100000 in
theorem renc_0 (g : Gm) (hk : g.kind ≠ 1 ∧ g.kind ≠ 9 ∧ g.kind ≠ 10) (hs : sndMs g.u = true) (hw : WfMs g.u) (w0 : World) (hi : InG g w0) :
    Calls Tryd.prog 16 #[.agg (gca g)] w0 (OwnRet KB w0 (encMs g.u)) := by
  have HI := Lib.hid hi
  have HW := Lib.hid hw
  have HK := Lib.hid (show 1 ≤ g.kind ∧ g.kind ≤ 10 from snd_kindR hs)
  have HX := Lib.hid (show 0 ≤ g.txn ∧ g.txn < 18446744073709551616 by have : 0 ≤ g.txn ∧ g.txn ≤ 4294967295 := snd_txn hs; omega)
  have HSd := Lib.hid hs
  have R0 := Lib.hid (Blk.new w0 (gca g) 33)
  have K0 := Lib.hid (below1 w0 (.cells (gca g) 33))
  have hwt : IntKind.u64.wrap g.txn = g.txn := by rw [IntKind.wrap_u64]; have := HX.out; omega
  have HKD := Lib.hid hk
  clear hs hw hi hk
  go_enter Tryd.func16, Tryd.ntmps16
  go_upto_region 1 with fail
  generalize w0.alloc (.cells (gca g) 33) = W0 at *
  go_cut [3] (fun v W => OuS w0 (gca g) 33 v ([g.kind % 256] ++ numB 4 g.txn) W)
  case first =>
    refine wp_region_held_drew (S := fun W => Blk w0.heap.size (gca g) 33 W ∧ Below w0.heap.size w0 W) (by kernel_rfl) ⟨R0.out.drew, K0.out.drew⟩ (fun hS => ?_)
    clear R0 K0
    generalize W0.drew = W at *
    refine seqRead 0 (v := _) rfl (by kernel_rfl) (by kernel_rfl) (by kernel_rfl) (fun _ _ _ h => h) rfl (fun w hSw => by go_simp <;> with_reducible rfl) hS ?_
    try simp only [Act.put, List.setIfInBounds_toArray, List.set_cons_zero, List.set_cons_succ]
    refine seqRead 1 (v := _) rfl (by kernel_rfl) (by kernel_rfl) (by kernel_rfl) (fun _ _ _ h => h) rfl (fun w hSw => by have c : w.cell? ⟨w0.heap.size, 0, none⟩ = some (.int .i64 g.kind) := hSw.1.cellsG.kind; go_simp <;> with_reducible rfl) hS ?_
    try simp only [Act.put, List.setIfInBounds_toArray, List.set_cons_zero, List.set_cons_succ]
    refine seqRead 2 (v := _) rfl (by kernel_rfl) (by kernel_rfl) (by kernel_rfl) (fun _ _ _ h => h) rfl (fun w hSw => by go_simp <;> with_reducible rfl) hS ?_
    try simp only [Act.put, List.setIfInBounds_toArray, List.set_cons_zero, List.set_cons_succ]
    refine seqRead 4 (v := _) rfl (by kernel_rfl) (by kernel_rfl) (by kernel_rfl) (fun _ _ _ h => h) rfl (fun w hSw => by go_simp <;> with_reducible rfl) hS ?_
    try simp only [Act.put, List.setIfInBounds_toArray, List.set_cons_zero, List.set_cons_succ]
    refine seqRead 5 (v := _) rfl (by kernel_rfl) (by kernel_rfl) (by kernel_rfl) (fun _ _ _ h => h) rfl (fun w hSw => by have c : w.cell? ⟨w0.heap.size, 1, none⟩ = some (.int .i64 g.txn) := hSw.1.cellsG.txn; go_simp <;> with_reducible rfl) hS ?_
    try simp only [Act.put, List.setIfInBounds_toArray, List.set_cons_zero, List.set_cons_succ]
    refine seqRead 6 (v := _) rfl (by kernel_rfl) (by kernel_rfl) (by kernel_rfl) (fun _ _ _ h => h) rfl (fun w hSw => by go_simp <;> with_reducible rfl) hS ?_
    try simp only [Act.put, List.setIfInBounds_toArray, List.set_cons_zero, List.set_cons_succ]
    refine seqActs2 3 7 rfl rfl (by kernel_rfl) rfl (fun K hK => ?_) rfl (fun K hK => ?_)
    · refine kbuildByteWp (.tmp 9) rfl (g.kind % 256) rfl ?_
      have HA := Lib.hid (KOwns.mono (byteOwn W (g.kind % 256)) (show w0.heap.size + 1 ≤ W.heap.size from hS.1.lt))
      have hS1 : Blk w0.heap.size (gca g) 33 (W.alloc (.cells #[.int .u8 (g.kind % 256)] KB.T)) ∧ Below w0.heap.size w0 (W.alloc (.cells #[.int .u8 (g.kind % 256)] KB.T)) := ⟨hS.1.old _, hS.2.trans ((below1 _ _).mono hS.2.size)⟩
      refine hK.out _ _ hS1 (fun hS => ?_)
      clear hK K hS1
      generalize hv : W.alloc (.cells #[Value.int .u8 (g.kind % 256)] KB.T) = V1 at *
      clear hv
      try simp only [Act.put, List.setIfInBounds_toArray, List.set_cons_zero, List.set_cons_succ]
      refine seqCall 7 rfl (by kernel_rfl) rfl (fun K hK => ?_)
      go_simp
      refine (num_any g.txn HX.out.1 HX.out.2 4 (by decide) V1).mono ?_
      rintro e V2 ⟨u, rfl, hu, hb⟩
      have HU := Lib.hid (hu.lies okB)
      have HA := Lib.hid (HA.out.below hb)
      refine hK.out _ _ ⟨hS.1.below hb, hS.2.trans (hb.mono hS.2.size)⟩ (fun hS => ?_)
      clear hK K hu hb
      try simp only [Act.put, List.setIfInBounds_toArray, List.set_cons_zero, List.set_cons_succ]
      refine seqCall 8 rfl (by kernel_rfl) rfl (fun K hK => ?_)
      refine kappendWpB KB okB (.tmp 10) (.tmp 14) rfl (w0.heap.size + 1) _ [g.kind % 256] (numB 4 g.txn) rfl HA.out _ rfl HU.out hS.1.lt (by rw [numB_len]; show (1 + 4) * 1 ≤ _; omega) (fun v3 W3 ho hg => ?_)
      have HO := Lib.hid (show OuS w0 (gca g) 33 v3 ([g.kind % 256] ++ numB 4 g.txn) W3 from OuS.grow ⟨hS.1, HA.out, hS.2⟩ ho hg)
      refine hK.out _ _ ⟨HO.out.1, HO.out.2.2⟩ (fun hS => ?_)
      clear hK K ho hg HA HU
      try simp only [Act.put, List.setIfInBounds_toArray, List.set_cons_zero, List.set_cons_succ]
      refine seqRead 9 (v := _) rfl (by kernel_rfl) (by kernel_rfl) (by kernel_rfl) (fun _ _ _ h => h) rfl (fun w hSw => by go_simp <;> with_reducible rfl) hS ?_
      try simp only [Act.put, List.setIfInBounds_toArray, List.set_cons_zero, List.set_cons_succ]
      refine seqDone (by kernel_rfl) ?_
      go_wp2_with fail
      go_meet
      case rel => exact HO.out
    · go_simp
      refine (num_any g.txn HX.out.1 HX.out.2 4 (by decide) W).mono ?_
      rintro e V1 ⟨u, rfl, hu, hb⟩
      have HU := Lib.hid (hu.lies okB)
      refine hK.out _ _ ⟨hS.1.below hb, hS.2.trans (hb.mono hS.2.size)⟩ (fun hS => ?_)
      clear hK K hu hb
      try simp only [Act.put, List.setIfInBounds_toArray, List.set_cons_zero, List.set_cons_succ]
      refine seqCall 3 rfl (by kernel_rfl) rfl (fun K hK => ?_)
      refine kbuildByteWp (.tmp 9) rfl (g.kind % 256) rfl ?_
      have HA := Lib.hid (KOwns.mono (byteOwn V1 (g.kind % 256)) (show w0.heap.size + 1 ≤ V1.heap.size from hS.1.lt))
      have HU := Lib.hid (HU.out.below okB (below1 V1 (.cells #[.int .u8 (g.kind % 256)] KB.T)))
      have hS1 : Blk w0.heap.size (gca g) 33 (V1.alloc (.cells #[.int .u8 (g.kind % 256)] KB.T)) ∧ Below w0.heap.size w0 (V1.alloc (.cells #[.int .u8 (g.kind % 256)] KB.T)) := ⟨hS.1.old _, hS.2.trans ((below1 _ _).mono hS.2.size)⟩
      refine hK.out _ _ hS1 (fun hS => ?_)
      clear hK K hS1
      generalize hv : V1.alloc (.cells #[Value.int .u8 (g.kind % 256)] KB.T) = V2 at *
      clear hv
      try simp only [Act.put, List.setIfInBounds_toArray, List.set_cons_zero, List.set_cons_succ]
      refine seqCall 8 rfl (by kernel_rfl) rfl (fun K hK => ?_)
      refine kappendWpB KB okB (.tmp 10) (.tmp 14) rfl (w0.heap.size + 1) _ [g.kind % 256] (numB 4 g.txn) rfl HA.out _ rfl HU.out hS.1.lt (by rw [numB_len]; show (1 + 4) * 1 ≤ _; omega) (fun v3 W3 ho hg => ?_)
      have HO := Lib.hid (show OuS w0 (gca g) 33 v3 ([g.kind % 256] ++ numB 4 g.txn) W3 from OuS.grow ⟨hS.1, HA.out, hS.2⟩ ho hg)
      refine hK.out _ _ ⟨HO.out.1, HO.out.2.2⟩ (fun hS => ?_)
      clear hK K ho hg HA HU
      try simp only [Act.put, List.setIfInBounds_toArray, List.set_cons_zero, List.set_cons_succ]
      refine seqRead 9 (v := _) rfl (by kernel_rfl) (by kernel_rfl) (by kernel_rfl) (fun _ _ _ h => h) rfl (fun w hSw => by go_simp <;> with_reducible rfl) hS ?_
      try simp only [Act.put, List.setIfInBounds_toArray, List.set_cons_zero, List.set_cons_succ]
      refine seqDone (by kernel_rfl) ?_
      go_wp2_with fail
      go_meet
      case rel => exact HO.out
  case rest =>
    clear R0 K0 hwt
    have HS4 := Lib.hid hcut
    clear hcut
    generalize wc = V4 at *
    obtain ⟨P, hP⟩ : ∃ P, P = [g.kind % 256] ++ numB 4 g.txn := ⟨_, rfl⟩
    have HE := Lib.hid (show encMs g.u = P ++ bodyL g.u by rw [hP]; show numB 1 g.kind ++ (numB 4 g.txn ++ []) ++ bodyL g.u = _; rw [List.append_nil]; rfl)
    have HP := Lib.hid (show P.length = 5 by rw [hP, List.length_append, numB_len]; rfl)
    rw [← hP] at HS4
    clear hP
    have k0 := HS4.out.1.cellsG.kind
    obtain ⟨h1, hn9, hn10⟩ := HKD.out
    have e1 := eq_false0 h1
    by_cases h6 : g.kind = 6
    · rw [h6] at k0
      have hbody : bodyL g.u = numB 1 g.e := by unfold bodyL; rw [if_neg (show ¬ g.u.kind = 1 from h1)]; exact if_pos h6
      rw [hbody] at HE
      clear hbody
      go_upto_region 11 with fail
      clear k0
      have q0 := HS4.out.1.cellsG.e
      go_wp2_with (refine kbyteL rfl _ rfl (g.e % 256) rfl ?_; refine Hid.out ?_)
      have HA := Lib.hid (HS4.out.below (below1 V4 (.cells #[.int .u8 (g.e % 256)] 5)))
      have HU := Lib.hid (byteLies V4 g.e)
      clear HS4 q0
      generalize V4.heap.size = D4 at *
      generalize V4.alloc (.cells #[.int .u8 (g.e % 256)] 5) = U4 at *
      refine Lib.hid ?_
      go_wp2_with (refine kappendP rfl _ _ rfl HA.out rfl rfl HU.out (by rw [HP.out, numB_len]; decide) (fun v5 V5 hO hR => ?_); refine Hid.out ?_)
      have HS5 := Lib.hid hO
      clear hO hR HA HU 
      refine Lib.hid ?_
      go_wp2_with fail
      go_ret
      have h := HS5.out.ret
      rw [HE.out]

      exact h
    have e6 := eq_false0 h6
    by_cases h8 : g.kind = 8
    · rw [h8] at k0
      have hbody : bodyL g.u = numB 1 g.port ++ encN (headN g.head) := by unfold bodyL; rw [if_neg (show ¬ g.u.kind = 1 from h1), if_neg (show ¬ g.u.kind = 6 from h6)]; exact if_pos h8
      rw [hbody, ← List.append_assoc] at HE
      clear hbody
      go_upto_region 13 with fail
      clear k0
      have q0 := HS4.out.1.cellsG.port
      go_wp2_with (refine kbyteL rfl _ rfl (g.port % 256) rfl ?_; refine Hid.out ?_)
      have HA := Lib.hid (HS4.out.below (below1 V4 (.cells #[.int .u8 (g.port % 256)] 5)))
      have HU := Lib.hid (byteLies V4 g.port)
      clear HS4 q0
      generalize V4.heap.size = D4 at *
      generalize V4.alloc (.cells #[.int .u8 (g.port % 256)] 5) = U4 at *
      refine Lib.hid ?_
      go_wp2_with (refine kappendP rfl _ _ rfl HA.out rfl rfl HU.out (by rw [HP.out, numB_len]; decide) (fun v5 V5 hO hR => ?_); refine Hid.out ?_)
      have HS5 := Lib.hid hO
      clear hO hR HA HU 
      refine Lib.hid ?_
      go_wp2_with fail
      obtain ⟨Y, hY⟩ : ∃ Y, Y = P ++ numB 1 g.port := ⟨_, rfl⟩
      rw [← hY] at HS5
      have HYl := Lib.hid (show Y.length = 6 by rw [hY, List.length_append, numB_len, HP.out])
      have HY := Lib.hid hY
      clear hY
      go_loopg [4, 3] 12 (fun q ix v wr => ∃ r : Nat, r + q = 12 ∧ ix = .int .i64 r ∧ OuS w0 (gca g) 33 v (Y ++ encN ((List.range r).map fun j => (8, g.head j))) wr)
      case atStart => exact ⟨0, by omega, rfl, by show OuS w0 (gca g) 33 _ (Y ++ []) _; rw [List.append_nil]; exact HS5.out⟩
      case round =>
        clear HS5
        obtain ⟨r, hr, rfl, hs⟩ := hrel
        have HS6 := Lib.hid hs
        clear hs
        by_cases hlt : r < 12
        · have hltI : (r : Int) < 12 := by omega
          have q0 := headCell HS6.out.1 hlt
          have HC := Lib.hid (num_any (g.head r) (HW.out.head r).1 (HW.out.head r).2 8 (by decide) wr)
          go_wp2_with (go_at_call 32; refine HC.out.mono ?_; rintro e U6 ⟨u, rfl, hu, hb⟩; refine Hid.out ?_)
          have HA := Lib.hid (HS6.out.below hb)
          have HU := Lib.hid (hu.lies okB)
          clear hu hb HC HS6  q0
          refine Lib.hid ?_
          go_wp2_with (refine kappendP rfl _ _ rfl HA.out rfl rfl HU.out (by rw [List.length_append, rangeN_len, numB_len, HYl.out]; omega) (fun v7 V7 hO hR => ?_); refine Hid.out ?_)
          have HS7 := Lib.hid hO
          clear hO hR HA HU 
          refine Lib.hid ?_
          go_wp2_with fail
          go_roundg (12 - (r + 1))
          case measure => omega
          case rel => exact ⟨r + 1, by omega, by go_num, by rw [rangeN_snoc, ← List.append_assoc]; exact HS7.out⟩
        · obtain rfl : r = 12 := by omega
          go_wp2_with fail
          go_ret
          rw [HE.out, ← HY.out]
          exact HS6.out.ret
    have e8 := eq_false0 h8
    · have f9 := eq_false0 hn9
      have f10 := eq_false0 hn10
      have h9 : ¬ (g.kind = 9 ∨ g.kind = 10) := by omega
      have hbody : bodyL g.u = [] := by
        unfold bodyL
        rw [if_neg (show ¬ g.u.kind = 1 from h1), if_neg (show ¬ g.u.kind = 6 from h6), if_neg (show ¬ g.u.kind = 8 from h8), if_neg (show ¬ (g.u.kind = 9 ∨ g.u.kind = 10) from h9)]
      rw [hbody, List.append_nil] at HE
      clear hbody h9
      go_wp2_with fail
      go_ret
      rw [HE.out]
      exact HS4.out.ret
theorem renc_any (g : Gm) (hs : sndMs g.u = true) (hw : WfMs g.u) (w0 : World) (hi : InG g w0) :
    Calls Tryd.prog 16 #[.agg (gca g)] w0 (OwnRet KB w0 (encMs g.u)) := by
  by_cases h1 : g.kind = 1
  · exact renc_1 g h1 hs hw w0 hi
  by_cases h9 : g.kind = 9 ∨ g.kind = 10
  · exact renc_9 g h9 hs hw w0 hi
  · exact renc_0 g ⟨h1, fun h => h9 (.inl h), fun h => h9 (.inr h)⟩ hs hw w0 hi
end Go.Proofs.YtndgbgolmpoepaaDoor
