/-
  The reference's Encode: of a change.
-/
import Derived.Test.YtndgbgolmpoepaaDoorCodRnh
namespace Go.Proofs.YtndgbgolmpoepaaDoor
set_option maxRecDepth 20000
open Go.RowKit

set_option maxHeartbeats 8000000 in
set_option maxRecDepth 100000 in
theorem renc_1 (g : Gm) (hk : g.kind = 1) (hs : sndMs g.u = true) (hw : WfMs g.u) (w0 : World) (hi : InG g w0) :
    Calls Tryd.prog 16 #[.agg (gca g)] w0 (OwnRet KB w0 (encMs g.u)) := by
  have HI := Lib.hid hi
  have HW := Lib.hid hw
  have HK := Lib.hid (show 1 ≤ g.kind ∧ g.kind ≤ 10 from snd_kindR hs)
  have HX := Lib.hid (show 0 ≤ g.txn ∧ g.txn < 18446744073709551616 by have : 0 ≤ g.txn ∧ g.txn ≤ 4294967295 := snd_txn hs; omega)
  have HSd := Lib.hid hs
  have R0 := Lib.hid (Blk.new w0 (gca g) 33)
  have K0 := Lib.hid (below1 w0 (.cells (gca g) 33))
  have hwt : IntKind.u64.wrap g.txn = g.txn := by rw [IntKind.wrap_u64]; have := HX.out; omega
  have HKD := Lib.hid hk
  clear hs hw hi hk
  go_enter Tryd.func16, Tryd.ntmps16
  go_upto_region 1 with fail
  generalize w0.alloc (.cells (gca g) 33) = W0 at *
  go_cut [3] (fun v W => OuS w0 (gca g) 33 v ([g.kind % 256] ++ numB 4 g.txn) W)
  case first =>
    refine wp_region_held_drew (S := fun W => Blk w0.heap.size (gca g) 33 W ∧ Below w0.heap.size w0 W) (by kernel_rfl) ⟨R0.out.drew, K0.out.drew⟩ (fun hS => ?_)
    clear R0 K0
    generalize W0.drew = W at *
    refine seqRead 0 (v := _) rfl (by kernel_rfl) (by kernel_rfl) (by kernel_rfl) (fun _ _ _ h => h) rfl (fun w hSw => by go_simp <;> with_reducible rfl) hS ?_
    try simp only [Act.put, List.setIfInBounds_toArray, List.set_cons_zero, List.set_cons_succ]
    refine seqRead 1 (v := _) rfl (by kernel_rfl) (by kernel_rfl) (by kernel_rfl) (fun _ _ _ h => h) rfl (fun w hSw => by have c : w.cell? ⟨w0.heap.size, 0, none⟩ = some (.int .i64 g.kind) := hSw.1.cellsG.kind; go_simp <;> with_reducible rfl) hS ?_
    try simp only [Act.put, List.setIfInBounds_toArray, List.set_cons_zero, List.set_cons_succ]
    refine seqRead 2 (v := _) rfl (by kernel_rfl) (by kernel_rfl) (by kernel_rfl) (fun _ _ _ h => h) rfl (fun w hSw => by go_simp <;> with_reducible rfl) hS ?_
    try simp only [Act.put, List.setIfInBounds_toArray, List.set_cons_zero, List.set_cons_succ]
    refine seqRead 4 (v := _) rfl (by kernel_rfl) (by kernel_rfl) (by kernel_rfl) (fun _ _ _ h => h) rfl (fun w hSw => by go_simp <;> with_reducible rfl) hS ?_
    try simp only [Act.put, List.setIfInBounds_toArray, List.set_cons_zero, List.set_cons_succ]
    refine seqRead 5 (v := _) rfl (by kernel_rfl) (by kernel_rfl) (by kernel_rfl) (fun _ _ _ h => h) rfl (fun w hSw => by have c : w.cell? ⟨w0.heap.size, 1, none⟩ = some (.int .i64 g.txn) := hSw.1.cellsG.txn; go_simp <;> with_reducible rfl) hS ?_
    try simp only [Act.put, List.setIfInBounds_toArray, List.set_cons_zero, List.set_cons_succ]
    refine seqRead 6 (v := _) rfl (by kernel_rfl) (by kernel_rfl) (by kernel_rfl) (fun _ _ _ h => h) rfl (fun w hSw => by go_simp <;> with_reducible rfl) hS ?_
    try simp only [Act.put, List.setIfInBounds_toArray, List.set_cons_zero, List.set_cons_succ]
    refine seqActs2 3 7 rfl rfl (by kernel_rfl) rfl (fun K hK => ?_) rfl (fun K hK => ?_)
    · refine kbuildByteWp (.tmp 9) rfl (g.kind % 256) rfl ?_
      have HA := Lib.hid (KOwns.mono (byteOwn W (g.kind % 256)) (show w0.heap.size + 1 ≤ W.heap.size from hS.1.lt))
      have hS1 : Blk w0.heap.size (gca g) 33 (W.alloc (.cells #[.int .u8 (g.kind % 256)] KB.T)) ∧ Below w0.heap.size w0 (W.alloc (.cells #[.int .u8 (g.kind % 256)] KB.T)) := ⟨hS.1.old _, hS.2.trans ((below1 _ _).mono hS.2.size)⟩
      refine hK.out _ _ hS1 (fun hS => ?_)
      clear hK K hS1
      generalize hv : W.alloc (.cells #[Value.int .u8 (g.kind % 256)] KB.T) = V1 at *
      clear hv
      try simp only [Act.put, List.setIfInBounds_toArray, List.set_cons_zero, List.set_cons_succ]
      refine seqCall 7 rfl (by kernel_rfl) rfl (fun K hK => ?_)
      go_simp
      refine (num_any g.txn HX.out.1 HX.out.2 4 (by decide) V1).mono ?_
      rintro e V2 ⟨u, rfl, hu, hb⟩
      have HU := Lib.hid (hu.lies okB)
      have HA := Lib.hid (HA.out.below hb)
      refine hK.out _ _ ⟨hS.1.below hb, hS.2.trans (hb.mono hS.2.size)⟩ (fun hS => ?_)
      clear hK K hu hb
      try simp only [Act.put, List.setIfInBounds_toArray, List.set_cons_zero, List.set_cons_succ]
      refine seqCall 8 rfl (by kernel_rfl) rfl (fun K hK => ?_)
      refine kappendWpB KB okB (.tmp 10) (.tmp 14) rfl (w0.heap.size + 1) _ [g.kind % 256] (numB 4 g.txn) rfl HA.out _ rfl HU.out hS.1.lt (by rw [numB_len]; show (1 + 4) * 1 ≤ _; omega) (fun v3 W3 ho hg => ?_)
      have HO := Lib.hid (show OuS w0 (gca g) 33 v3 ([g.kind % 256] ++ numB 4 g.txn) W3 from OuS.grow ⟨hS.1, HA.out, hS.2⟩ ho hg)
      refine hK.out _ _ ⟨HO.out.1, HO.out.2.2⟩ (fun hS => ?_)
      clear hK K ho hg HA HU
      try simp only [Act.put, List.setIfInBounds_toArray, List.set_cons_zero, List.set_cons_succ]
      refine seqRead 9 (v := _) rfl (by kernel_rfl) (by kernel_rfl) (by kernel_rfl) (fun _ _ _ h => h) rfl (fun w hSw => by go_simp <;> with_reducible rfl) hS ?_
      try simp only [Act.put, List.setIfInBounds_toArray, List.set_cons_zero, List.set_cons_succ]
      refine seqDone (by kernel_rfl) ?_
      go_wp2_with fail
      go_meet
      case rel => exact HO.out
    · go_simp
      refine (num_any g.txn HX.out.1 HX.out.2 4 (by decide) W).mono ?_
      rintro e V1 ⟨u, rfl, hu, hb⟩
      have HU := Lib.hid (hu.lies okB)
      refine hK.out _ _ ⟨hS.1.below hb, hS.2.trans (hb.mono hS.2.size)⟩ (fun hS => ?_)
      clear hK K hu hb
      try simp only [Act.put, List.setIfInBounds_toArray, List.set_cons_zero, List.set_cons_succ]
      refine seqCall 3 rfl (by kernel_rfl) rfl (fun K hK => ?_)
      refine kbuildByteWp (.tmp 9) rfl (g.kind % 256) rfl ?_
      have HA := Lib.hid (KOwns.mono (byteOwn V1 (g.kind % 256)) (show w0.heap.size + 1 ≤ V1.heap.size from hS.1.lt))
      have HU := Lib.hid (HU.out.below okB (below1 V1 (.cells #[.int .u8 (g.kind % 256)] KB.T)))
      have hS1 : Blk w0.heap.size (gca g) 33 (V1.alloc (.cells #[.int .u8 (g.kind % 256)] KB.T)) ∧ Below w0.heap.size w0 (V1.alloc (.cells #[.int .u8 (g.kind % 256)] KB.T)) := ⟨hS.1.old _, hS.2.trans ((below1 _ _).mono hS.2.size)⟩
      refine hK.out _ _ hS1 (fun hS => ?_)
      clear hK K hS1
      generalize hv : V1.alloc (.cells #[Value.int .u8 (g.kind % 256)] KB.T) = V2 at *
      clear hv
      try simp only [Act.put, List.setIfInBounds_toArray, List.set_cons_zero, List.set_cons_succ]
      refine seqCall 8 rfl (by kernel_rfl) rfl (fun K hK => ?_)
      refine kappendWpB KB okB (.tmp 10) (.tmp 14) rfl (w0.heap.size + 1) _ [g.kind % 256] (numB 4 g.txn) rfl HA.out _ rfl HU.out hS.1.lt (by rw [numB_len]; show (1 + 4) * 1 ≤ _; omega) (fun v3 W3 ho hg => ?_)
      have HO := Lib.hid (show OuS w0 (gca g) 33 v3 ([g.kind % 256] ++ numB 4 g.txn) W3 from OuS.grow ⟨hS.1, HA.out, hS.2⟩ ho hg)
      refine hK.out _ _ ⟨HO.out.1, HO.out.2.2⟩ (fun hS => ?_)
      clear hK K ho hg HA HU
      try simp only [Act.put, List.setIfInBounds_toArray, List.set_cons_zero, List.set_cons_succ]
      refine seqRead 9 (v := _) rfl (by kernel_rfl) (by kernel_rfl) (by kernel_rfl) (fun _ _ _ h => h) rfl (fun w hSw => by go_simp <;> with_reducible rfl) hS ?_
      try simp only [Act.put, List.setIfInBounds_toArray, List.set_cons_zero, List.set_cons_succ]
      refine seqDone (by kernel_rfl) ?_
      go_wp2_with fail
      go_meet
      case rel => exact HO.out
  case rest =>
    clear R0 K0 hwt
    have HS4 := Lib.hid hcut
    clear hcut
    generalize wc = V4 at *
    obtain ⟨P, hP⟩ : ∃ P, P = [g.kind % 256] ++ numB 4 g.txn := ⟨_, rfl⟩
    have HE := Lib.hid (show encMs g.u = P ++ bodyL g.u by rw [hP]; show numB 1 g.kind ++ (numB 4 g.txn ++ []) ++ bodyL g.u = _; rw [List.append_nil]; rfl)
    have HP := Lib.hid (show P.length = 5 by rw [hP, List.length_append, numB_len]; rfl)
    rw [← hP] at HS4
    clear hP
    have k0 := HS4.out.1.cellsG.kind
    have h1 := HKD.out
    · rw [h1] at k0
      go_upto_region 4 with fail
      clear k0
      have hm := sndk_1 HSd.out h1
      have HM := Lib.hid (mod_rng (mod_fit hm HW.out.mod))
      have HFA := Lib.hid (show FitA g.mod.u.acts from fitA_of (snd_mod hm).1 HW.out.mod.a)
      have HAl := Lib.hid (encA_len g.mod.u.acts)
      have hbody : bodyL g.u = encM g.mod.u := by unfold bodyL; exact if_pos h1
      rw [hbody] at HE
      clear hbody hm
      have q0 := HS4.out.1.cellsGM.1
      go_wp2_with (refine kbyteL rfl _ rfl (g.mod.u.kind % 256) rfl ?_; refine Hid.out ?_)
      have HA := Lib.hid (HS4.out.below (below1 V4 (.cells #[.int .u8 (g.mod.u.kind % 256)] 5)))
      have HU := Lib.hid (byteLies V4 g.mod.u.kind)
      clear HS4 q0
      generalize V4.heap.size = D4 at *
      generalize V4.alloc (.cells #[.int .u8 (g.mod.u.kind % 256)] 5) = U4 at *
      refine Lib.hid ?_
      go_wp2_with (refine kappendP rfl _ _ rfl HA.out rfl rfl HU.out (by rw [HP.out, numB_len]; decide) (fun v5 V5 hO hR => ?_); refine Hid.out ?_)
      have HS5 := Lib.hid hO
      clear hO hR HA HU 
      refine Lib.hid ?_
      obtain ⟨_, qM, q1, _, q3, q4, q5, _⟩ := HS5.out.1.cellsGM
      have QM := Lib.hid qM
      clear qM
      have HC := Lib.hid (heads_any g.mod.u.m HW.out.mod.m g.mod.u.p g.mod.u.idle g.mod.u.hard g.mod.u.owner HM.out.2.1 HM.out.2.2.1 HM.out.2.2.2.1 V5)
      go_wp2_with (first
        | (refine wpList_load_mid rfl 27 _ rfl w0.heap.size 4 rfl (cl g.mod.u.m) _ QM.out Tryd.underlying27 rfl infoCube ?_)
        | (go_at_call 33; refine HC.out.mono ?_; rintro e U5 ⟨u, rfl, hu, hb⟩; refine Hid.out ?_))
      have HA := Lib.hid (HS5.out.below hb)
      have HU := Lib.hid (hu.lies okB)
      clear hu hb HC HS5  QM q1 q3 q4 q5
      refine Lib.hid ?_
      go_wp2_with (refine kappendP rfl _ _ rfl HA.out rfl rfl HU.out (by simp only [List.length_append, numB_len, cubeN_len, HP.out]; omega) (fun v6 V6 hO hR => ?_); refine Hid.out ?_)
      have HS6 := Lib.hid hO
      clear hO hR HA HU 
      refine Lib.hid ?_
      obtain ⟨_, _, _, _, _, _, _, q7⟩ := HS6.out.1.cellsGM
      obtain ⟨ck, hck⟩ : ∃ ck, ck = g.mod.u.chk := ⟨_, rfl⟩
      rw [← hck] at q7
      have HCK := Lib.hid hck
      clear hck
      cases ck
      · skip
        have HLN := Lib.hid (show (P ++ numB 1 g.mod.u.kind ++ (encN (cubeN g.mod.u.m) ++ numB 2 g.mod.u.p ++ numB 4 g.mod.u.idle ++ numB 4 g.mod.u.hard ++ numB 1 g.mod.u.owner)).length + (numB 1 0).length ≤ 1000000000 by simp only [List.length_append, numB_len, cubeN_len, HP.out]; omega)
        go_wp2_with (refine kbyteL rfl _ rfl 0 rfl ?_; refine Hid.out ?_)
        have HA := Lib.hid (HS6.out.below (below1 V6 (.cells #[.int .u8 0] 5)))
        have HU := Lib.hid (show KLies KB (.slice (some ⟨V6.heap.size, 0, none⟩) 1 1) (numB 1 0) (V6.alloc (.cells #[.int .u8 0] 5)) from byteLies V6 0)
        clear HS6 q7
        generalize V6.heap.size = D6 at *
        generalize V6.alloc (.cells #[.int .u8 0] 5) = U6 at *
        refine Lib.hid ?_
        go_wp2_with (refine kappendP rfl _ _ rfl HA.out rfl rfl HU.out (by exact HLN.out) (fun v7 V7 hO hR => ?_); refine Hid.out ?_)
        have HS7 := Lib.hid hO
        clear hO hR HA HU 
        refine Lib.hid ?_
        have HLM := Lib.hid (show (P ++ numB 1 g.mod.u.kind ++ (encN (cubeN g.mod.u.m) ++ numB 2 g.mod.u.p ++ numB 4 g.mod.u.idle ++ numB 4 g.mod.u.hard ++ numB 1 g.mod.u.owner) ++ numB 1 0).length + (encA g.mod.u.acts).length ≤ 1000000000 by simp only [List.length_append, numB_len, cubeN_len, HP.out]; have := HAl.out; have := HFA.out.1; omega)
        obtain ⟨_, _, _, q2, _⟩ := HS7.out.1.cellsGM
        have HC := Lib.hid (eacts_any (.slice g.mod.q g.mod.n g.mod.c) g.mod.u.acts HFA.out V7 (HI.out.1.below HS7.out.2.2))
        go_wp2_with (go_at_call 34; refine HC.out.mono ?_; rintro e U7 ⟨u, rfl, hu, hb⟩; refine Hid.out ?_)
        have HA := Lib.hid (HS7.out.below hb)
        have HU := Lib.hid (hu.lies okB)
        clear hu hb HC HS7  q2
        refine Lib.hid ?_
        go_wp2_with (refine kappendP rfl _ _ rfl HA.out rfl rfl HU.out (by exact HLM.out) (fun v8 V8 hO hR => ?_); refine Hid.out ?_)
        have HS8 := Lib.hid hO
        clear hO hR HA HU 
        refine Lib.hid ?_
        go_wp2_with fail
        go_ret
        have h := HS8.out.ret
        rw [HE.out]
        unfold encM modN
        rw [← HCK.out]
        simp only [encN, encN_app, List.append_assoc, List.append_nil] at h ⊢
        exact h
      · skip
        have HLN := Lib.hid (show (P ++ numB 1 g.mod.u.kind ++ (encN (cubeN g.mod.u.m) ++ numB 2 g.mod.u.p ++ numB 4 g.mod.u.idle ++ numB 4 g.mod.u.hard ++ numB 1 g.mod.u.owner)).length + (numB 1 1).length ≤ 1000000000 by simp only [List.length_append, numB_len, cubeN_len, HP.out]; omega)
        go_wp2_with (refine kbyteL rfl _ rfl 1 rfl ?_; refine Hid.out ?_)
        have HA := Lib.hid (HS6.out.below (below1 V6 (.cells #[.int .u8 1] 5)))
        have HU := Lib.hid (show KLies KB (.slice (some ⟨V6.heap.size, 0, none⟩) 1 1) (numB 1 1) (V6.alloc (.cells #[.int .u8 1] 5)) from byteLies V6 1)
        clear HS6 q7
        generalize V6.heap.size = D6 at *
        generalize V6.alloc (.cells #[.int .u8 1] 5) = U6 at *
        refine Lib.hid ?_
        go_wp2_with (refine kappendP rfl _ _ rfl HA.out rfl rfl HU.out (by exact HLN.out) (fun v7 V7 hO hR => ?_); refine Hid.out ?_)
        have HS7 := Lib.hid hO
        clear hO hR HA HU 
        refine Lib.hid ?_
        have HLM := Lib.hid (show (P ++ numB 1 g.mod.u.kind ++ (encN (cubeN g.mod.u.m) ++ numB 2 g.mod.u.p ++ numB 4 g.mod.u.idle ++ numB 4 g.mod.u.hard ++ numB 1 g.mod.u.owner) ++ numB 1 1).length + (encA g.mod.u.acts).length ≤ 1000000000 by simp only [List.length_append, numB_len, cubeN_len, HP.out]; have := HAl.out; have := HFA.out.1; omega)
        obtain ⟨_, _, _, q2, _⟩ := HS7.out.1.cellsGM
        have HC := Lib.hid (eacts_any (.slice g.mod.q g.mod.n g.mod.c) g.mod.u.acts HFA.out V7 (HI.out.1.below HS7.out.2.2))
        go_wp2_with (go_at_call 34; refine HC.out.mono ?_; rintro e U7 ⟨u, rfl, hu, hb⟩; refine Hid.out ?_)
        have HA := Lib.hid (HS7.out.below hb)
        have HU := Lib.hid (hu.lies okB)
        clear hu hb HC HS7  q2
        refine Lib.hid ?_
        go_wp2_with (refine kappendP rfl _ _ rfl HA.out rfl rfl HU.out (by exact HLM.out) (fun v8 V8 hO hR => ?_); refine Hid.out ?_)
        have HS8 := Lib.hid hO
        clear hO hR HA HU 
        refine Lib.hid ?_
        go_wp2_with fail
        go_ret
        have h := HS8.out.ret
        rw [HE.out]
        unfold encM modN
        rw [← HCK.out]
        simp only [encN, encN_app, List.append_assoc, List.append_nil] at h ⊢
        exact h
end Go.Proofs.YtndgbgolmpoepaaDoor
