/-
  SameMsgs of the reference.
-/
import Derived.Test.YtndgbgolmpoepaaDoorCodSam
import Derived.Deep.DeepCutAuto
namespace Go.Proofs.YtndgbgolmpoepaaDoor
set_option maxRecDepth 20000
open Go.RowKit


set_option maxHeartbeats 8000000 in
set_option maxRecDepth 100000 in
theorem rsamemsg_any (va vb : Value) (a b : Gm) (hla : a.rs.length ≤ 1000000) (hwb : WfRL b.rs) (hlm : b.mod.u.acts.length ≤ 140737488355328) (w : World) (ka : KLies KG va [a] w) (kb : KLies KG vb [b] w) (ia : InG a w) (ib : InG b w) :
    Calls Tryd.prog 17 #[va, vb] w fun e w' => e = .returned (.bool (msEq a.u b.u)) ∧ Below w.heap.size w w' := by
  obtain ⟨pa, ca, rfl⟩ := ka.form
  obtain ⟨pb, cb, rfl⟩ := kb.form
  have HKa := Lib.hid ka
  have HKb := Lib.hid kb
  have HIa := Lib.hid ia
  have HIb := Lib.hid ib
  have HLa := Lib.hid hla
  have HWb := Lib.hid hwb
  have HLM := Lib.hid hlm
  obtain ⟨y, hy⟩ : ∃ y, y = msEq a.u b.u := ⟨_, rfl⟩
  rw [← hy]
  rw [msEq_bits] at hy
  have HY := Lib.hid hy
  clear ia ib hla hwb hlm hy ka kb
  simp only [List.length_cons, List.length_nil, Nat.zero_add] at *
  go_enter Tryd.func17, Tryd.ntmps17
  go_wp2_with fail
  go_loopg [5] 1 (fun q i wr => ∃ r : Nat, r + q = 1 ∧ i = .int .i64 r ∧ (r = 1 → y = true) ∧ Below w.heap.size w wr)
  case atStart => exact ⟨0, by omega, rfl, fun h => by omega, Below.refl _ _⟩
  case round =>
    obtain ⟨r, hr, rfl, hyt, hk⟩ := hrel
    have HYT := Lib.hid hyt
    have HK := Lib.hid hk
    clear hyt hk
    by_cases hlt : r < 1
    · have hltI : (r : Int) < 1 := by omega
      have hr0 : r = 0 := by omega
      have hxa : [a][r]? = some a := by rw [hr0]; rfl
      have hxb : [b][r]? = some b := by rw [hr0]; rfl
      obtain ⟨ba, oa, rfl, _⟩ := HKa.out.at hxa
      obtain ⟨bb, ob, rfl, _⟩ := HKb.out.at hxb
      have HRa := Lib.hid hxa
      have HRb := Lib.hid hxb
      clear hxa hxb hr0
      go_upto_region 6 with fail
      go_cut [6, 7] (fun p q W => ∃ B1 B2 : Nat, p = .pointer (some ⟨B1, 0, none⟩) ∧ q = .pointer (some ⟨B2, 0, none⟩) ∧ TwG w B1 B2 a b W)
      case first =>
        refine wp_region_held_drew (S := Below w.heap.size w) (by kernel_rfl) HK.out.drew (fun hS => ?_)
        clear HK
        generalize wr.drew = W at *
        refine seqRead 0 (v := _) rfl (by kernel_rfl) (by kernel_rfl) (by kernel_rfl) (fun _ _ _ h => h) rfl (fun w hSw => by go_simp <;> with_reducible rfl) hS ?_
        try simp only [Act.put, List.setIfInBounds_toArray, List.set_cons_zero, List.set_cons_succ]
        refine seqRead 1 (v := _) rfl (by kernel_rfl) (by kernel_rfl) (by kernel_rfl) (fun _ _ _ h => h) rfl (fun w hSw => by go_simp <;> with_reducible rfl) hS ?_
        try simp only [Act.put, List.setIfInBounds_toArray, List.set_cons_zero, List.set_cons_succ]
        refine seqRead 2 (v := _) rfl (by kernel_rfl) (by kernel_rfl) (by kernel_rfl) (fun _ _ _ h => h) rfl (fun w hSw => by go_simp <;> with_reducible rfl) hS ?_
        try simp only [Act.put, List.setIfInBounds_toArray, List.set_cons_zero, List.set_cons_succ]
        refine seqRead 3 (v := _) rfl (by kernel_rfl) (by kernel_rfl) (by kernel_rfl) (fun _ _ _ h => h) rfl (fun w hSw => execRow rfl ba (oa + r * 48) rfl (gcl a) _ ((HKa.out.below okG hSw).at' HRa.out) Tryd.underlying33 rfl infoG) hS ?_
        try simp only [Act.put, List.setIfInBounds_toArray, List.set_cons_zero, List.set_cons_succ]
        refine seqRead 4 (v := _) rfl (by kernel_rfl) (by kernel_rfl) (by kernel_rfl) (fun _ _ _ h => h) rfl (fun w hSw => by go_simp <;> with_reducible rfl) hS ?_
        try simp only [Act.put, List.setIfInBounds_toArray, List.set_cons_zero, List.set_cons_succ]
        refine seqRead 5 (v := _) rfl (by kernel_rfl) (by kernel_rfl) (by kernel_rfl) (fun _ _ _ h => h) rfl (fun w hSw => by go_simp <;> with_reducible rfl) hS ?_
        try simp only [Act.put, List.setIfInBounds_toArray, List.set_cons_zero, List.set_cons_succ]
        refine seqRead 6 (v := _) rfl (by kernel_rfl) (by kernel_rfl) (by kernel_rfl) (fun _ _ _ h => h) rfl (fun w hSw => by go_simp <;> with_reducible rfl) hS ?_
        try simp only [Act.put, List.setIfInBounds_toArray, List.set_cons_zero, List.set_cons_succ]
        refine seqRead 7 (v := _) rfl (by kernel_rfl) (by kernel_rfl) (by kernel_rfl) (fun _ _ _ h => h) rfl (fun w hSw => execRow rfl bb (ob + r * 48) rfl (gcl b) _ ((HKb.out.below okG hSw).at' HRb.out) Tryd.underlying33 rfl infoG) hS ?_
        try simp only [Act.put, List.setIfInBounds_toArray, List.set_cons_zero, List.set_cons_succ]
        refine seqActs2 8 9 rfl rfl (by kernel_rfl) rfl (fun K hK => ?_) rfl (fun K hK => ?_)
        · go_simp
          have X6 := Lib.hid (Blk.new W #[Value.int IntKind.i64 0, Value.int IntKind.i64 0, Value.int IntKind.i64 0, Value.int IntKind.i64 0, Value.int IntKind.u64 0, Value.int IntKind.u64 0, Value.int IntKind.u64 0, Value.int IntKind.u64 0, Value.int IntKind.u64 0, Value.int IntKind.u64 0, Value.int IntKind.u64 0, Value.int IntKind.u64 0, Value.int IntKind.u64 0, Value.int IntKind.u64 0, Value.int IntKind.u64 0, Value.int IntKind.u64 0, Value.int IntKind.u64 0, Value.int IntKind.u64 0, Value.int IntKind.u64 0, Value.int IntKind.u64 0, Value.int IntKind.u64 0, Value.int IntKind.u64 0, Value.int IntKind.u64 0, Value.int IntKind.u64 0, Value.int IntKind.u64 0, Value.int IntKind.u64 0, Value.int IntKind.u64 0, Value.int IntKind.u64 0, Value.int IntKind.i64 0, Value.slice none 0 0, Value.int IntKind.i64 0, Value.int IntKind.i64 0, Value.int IntKind.i64 0, Value.bool false, Value.int IntKind.i64 0, Value.int IntKind.u64 0, Value.int IntKind.u64 0, Value.int IntKind.u64 0, Value.int IntKind.u64 0, Value.int IntKind.u64 0, Value.int IntKind.u64 0, Value.int IntKind.u64 0, Value.int IntKind.u64 0, Value.int IntKind.u64 0, Value.int IntKind.u64 0, Value.int IntKind.u64 0, Value.int IntKind.u64 0, Value.slice none 0 0] 33)
          have G6 := Lib.hid (show w.heap.size ≤ W.heap.size from hS.size)
          refine hK.out _ _ (hS.trans ((below1 _ _).mono hS.size)) (fun hS => ?_)
          clear hK K
          generalize hv : W.alloc (.cells #[Value.int IntKind.i64 0, Value.int IntKind.i64 0, Value.int IntKind.i64 0, Value.int IntKind.i64 0, Value.int IntKind.u64 0, Value.int IntKind.u64 0, Value.int IntKind.u64 0, Value.int IntKind.u64 0, Value.int IntKind.u64 0, Value.int IntKind.u64 0, Value.int IntKind.u64 0, Value.int IntKind.u64 0, Value.int IntKind.u64 0, Value.int IntKind.u64 0, Value.int IntKind.u64 0, Value.int IntKind.u64 0, Value.int IntKind.u64 0, Value.int IntKind.u64 0, Value.int IntKind.u64 0, Value.int IntKind.u64 0, Value.int IntKind.u64 0, Value.int IntKind.u64 0, Value.int IntKind.u64 0, Value.int IntKind.u64 0, Value.int IntKind.u64 0, Value.int IntKind.u64 0, Value.int IntKind.u64 0, Value.int IntKind.u64 0, Value.int IntKind.i64 0, Value.slice none 0 0, Value.int IntKind.i64 0, Value.int IntKind.i64 0, Value.int IntKind.i64 0, Value.bool false, Value.int IntKind.i64 0, Value.int IntKind.u64 0, Value.int IntKind.u64 0, Value.int IntKind.u64 0, Value.int IntKind.u64 0, Value.int IntKind.u64 0, Value.int IntKind.u64 0, Value.int IntKind.u64 0, Value.int IntKind.u64 0, Value.int IntKind.u64 0, Value.int IntKind.u64 0, Value.int IntKind.u64 0, Value.int IntKind.u64 0, Value.slice none 0 0] 33) = V1 at *
          clear hv
          try simp only [Act.put, List.setIfInBounds_toArray, List.set_cons_zero, List.set_cons_succ]
          refine seqCall 9 rfl (by kernel_rfl) rfl (fun K hK => ?_)
          go_simp
          have X7 := Lib.hid (Blk.new V1 #[Value.int IntKind.i64 0, Value.int IntKind.i64 0, Value.int IntKind.i64 0, Value.int IntKind.i64 0, Value.int IntKind.u64 0, Value.int IntKind.u64 0, Value.int IntKind.u64 0, Value.int IntKind.u64 0, Value.int IntKind.u64 0, Value.int IntKind.u64 0, Value.int IntKind.u64 0, Value.int IntKind.u64 0, Value.int IntKind.u64 0, Value.int IntKind.u64 0, Value.int IntKind.u64 0, Value.int IntKind.u64 0, Value.int IntKind.u64 0, Value.int IntKind.u64 0, Value.int IntKind.u64 0, Value.int IntKind.u64 0, Value.int IntKind.u64 0, Value.int IntKind.u64 0, Value.int IntKind.u64 0, Value.int IntKind.u64 0, Value.int IntKind.u64 0, Value.int IntKind.u64 0, Value.int IntKind.u64 0, Value.int IntKind.u64 0, Value.int IntKind.i64 0, Value.slice none 0 0, Value.int IntKind.i64 0, Value.int IntKind.i64 0, Value.int IntKind.i64 0, Value.bool false, Value.int IntKind.i64 0, Value.int IntKind.u64 0, Value.int IntKind.u64 0, Value.int IntKind.u64 0, Value.int IntKind.u64 0, Value.int IntKind.u64 0, Value.int IntKind.u64 0, Value.int IntKind.u64 0, Value.int IntKind.u64 0, Value.int IntKind.u64 0, Value.int IntKind.u64 0, Value.int IntKind.u64 0, Value.int IntKind.u64 0, Value.slice none 0 0] 33)
          have G7 := Lib.hid (show w.heap.size ≤ V1.heap.size from hS.size)
          have D := Lib.hid (show W.heap.size ≠ V1.heap.size by have := X6.out.lt; omega)
          have X6 := Lib.hid (X6.out.old (.cells #[Value.int IntKind.i64 0, Value.int IntKind.i64 0, Value.int IntKind.i64 0, Value.int IntKind.i64 0, Value.int IntKind.u64 0, Value.int IntKind.u64 0, Value.int IntKind.u64 0, Value.int IntKind.u64 0, Value.int IntKind.u64 0, Value.int IntKind.u64 0, Value.int IntKind.u64 0, Value.int IntKind.u64 0, Value.int IntKind.u64 0, Value.int IntKind.u64 0, Value.int IntKind.u64 0, Value.int IntKind.u64 0, Value.int IntKind.u64 0, Value.int IntKind.u64 0, Value.int IntKind.u64 0, Value.int IntKind.u64 0, Value.int IntKind.u64 0, Value.int IntKind.u64 0, Value.int IntKind.u64 0, Value.int IntKind.u64 0, Value.int IntKind.u64 0, Value.int IntKind.u64 0, Value.int IntKind.u64 0, Value.int IntKind.u64 0, Value.int IntKind.i64 0, Value.slice none 0 0, Value.int IntKind.i64 0, Value.int IntKind.i64 0, Value.int IntKind.i64 0, Value.bool false, Value.int IntKind.i64 0, Value.int IntKind.u64 0, Value.int IntKind.u64 0, Value.int IntKind.u64 0, Value.int IntKind.u64 0, Value.int IntKind.u64 0, Value.int IntKind.u64 0, Value.int IntKind.u64 0, Value.int IntKind.u64 0, Value.int IntKind.u64 0, Value.int IntKind.u64 0, Value.int IntKind.u64 0, Value.int IntKind.u64 0, Value.slice none 0 0] 33))
          refine hK.out _ _ (hS.trans ((below1 _ _).mono hS.size)) (fun hS => ?_)
          clear hK K
          generalize hv : V1.alloc (.cells #[Value.int IntKind.i64 0, Value.int IntKind.i64 0, Value.int IntKind.i64 0, Value.int IntKind.i64 0, Value.int IntKind.u64 0, Value.int IntKind.u64 0, Value.int IntKind.u64 0, Value.int IntKind.u64 0, Value.int IntKind.u64 0, Value.int IntKind.u64 0, Value.int IntKind.u64 0, Value.int IntKind.u64 0, Value.int IntKind.u64 0, Value.int IntKind.u64 0, Value.int IntKind.u64 0, Value.int IntKind.u64 0, Value.int IntKind.u64 0, Value.int IntKind.u64 0, Value.int IntKind.u64 0, Value.int IntKind.u64 0, Value.int IntKind.u64 0, Value.int IntKind.u64 0, Value.int IntKind.u64 0, Value.int IntKind.u64 0, Value.int IntKind.u64 0, Value.int IntKind.u64 0, Value.int IntKind.u64 0, Value.int IntKind.u64 0, Value.int IntKind.i64 0, Value.slice none 0 0, Value.int IntKind.i64 0, Value.int IntKind.i64 0, Value.int IntKind.i64 0, Value.bool false, Value.int IntKind.i64 0, Value.int IntKind.u64 0, Value.int IntKind.u64 0, Value.int IntKind.u64 0, Value.int IntKind.u64 0, Value.int IntKind.u64 0, Value.int IntKind.u64 0, Value.int IntKind.u64 0, Value.int IntKind.u64 0, Value.int IntKind.u64 0, Value.int IntKind.u64 0, Value.int IntKind.u64 0, Value.int IntKind.u64 0, Value.slice none 0 0] 33) = V2 at *
          clear hv
          try simp only [Act.put, List.setIfInBounds_toArray, List.set_cons_zero, List.set_cons_succ]
          refine seqCall 10 rfl (by kernel_rfl) rfl (fun K hK => ?_)
          refine wp_store_row 33 _ _ rfl W.heap.size (gca a) rfl rfl 33 _ X6.out (by kernel_rfl) rfl (gca_one _) (hK.out _ _ (below_setRow hS G6.out _) (fun hS => ?_))
          clear hK K
          have X6 := Lib.hid (X6.out.rset (gca a))
          have X7 := Lib.hid (show Blk V1.heap.size _ 33 (V2.setRow W.heap.size (gca a)) from (setRow_other _ _ _ _ (by have := D.out; omega)).trans X7.out)
          generalize hv : V2.setRow W.heap.size (gca a) = V3 at *
          clear hv
          try simp only [Act.put]
          refine seqCall 11 rfl (by kernel_rfl) rfl (fun K hK => ?_)
          refine wp_store_row 33 _ _ rfl V1.heap.size (gca b) rfl rfl 33 _ X7.out (by kernel_rfl) rfl (gca_one _) (hK.out _ _ (below_setRow hS G7.out _) (fun hS => ?_))
          clear hK K
          have X7 := Lib.hid (X7.out.rset (gca b))
          have X6 := Lib.hid (show Blk W.heap.size _ 33 (V3.setRow V1.heap.size (gca b)) from (setRow_other _ _ _ _ (by have := D.out; omega)).trans X6.out)
          generalize hv : V3.setRow V1.heap.size (gca b) = V4 at *
          clear hv
          try simp only [Act.put]
          refine seqDone (by kernel_rfl) ?_
          have hT : TwG w W.heap.size V1.heap.size a b V4 := ⟨X6.out, X7.out, hS⟩
          clear X6 X7 G6 G7 D hS
          go_wp2_with fail
          go_meet
          case rel => exact ⟨_, _, rfl, rfl, hT⟩
        · go_simp
          have X7 := Lib.hid (Blk.new W #[Value.int IntKind.i64 0, Value.int IntKind.i64 0, Value.int IntKind.i64 0, Value.int IntKind.i64 0, Value.int IntKind.u64 0, Value.int IntKind.u64 0, Value.int IntKind.u64 0, Value.int IntKind.u64 0, Value.int IntKind.u64 0, Value.int IntKind.u64 0, Value.int IntKind.u64 0, Value.int IntKind.u64 0, Value.int IntKind.u64 0, Value.int IntKind.u64 0, Value.int IntKind.u64 0, Value.int IntKind.u64 0, Value.int IntKind.u64 0, Value.int IntKind.u64 0, Value.int IntKind.u64 0, Value.int IntKind.u64 0, Value.int IntKind.u64 0, Value.int IntKind.u64 0, Value.int IntKind.u64 0, Value.int IntKind.u64 0, Value.int IntKind.u64 0, Value.int IntKind.u64 0, Value.int IntKind.u64 0, Value.int IntKind.u64 0, Value.int IntKind.i64 0, Value.slice none 0 0, Value.int IntKind.i64 0, Value.int IntKind.i64 0, Value.int IntKind.i64 0, Value.bool false, Value.int IntKind.i64 0, Value.int IntKind.u64 0, Value.int IntKind.u64 0, Value.int IntKind.u64 0, Value.int IntKind.u64 0, Value.int IntKind.u64 0, Value.int IntKind.u64 0, Value.int IntKind.u64 0, Value.int IntKind.u64 0, Value.int IntKind.u64 0, Value.int IntKind.u64 0, Value.int IntKind.u64 0, Value.int IntKind.u64 0, Value.slice none 0 0] 33)
          have G7 := Lib.hid (show w.heap.size ≤ W.heap.size from hS.size)
          refine hK.out _ _ (hS.trans ((below1 _ _).mono hS.size)) (fun hS => ?_)
          clear hK K
          generalize hv : W.alloc (.cells #[Value.int IntKind.i64 0, Value.int IntKind.i64 0, Value.int IntKind.i64 0, Value.int IntKind.i64 0, Value.int IntKind.u64 0, Value.int IntKind.u64 0, Value.int IntKind.u64 0, Value.int IntKind.u64 0, Value.int IntKind.u64 0, Value.int IntKind.u64 0, Value.int IntKind.u64 0, Value.int IntKind.u64 0, Value.int IntKind.u64 0, Value.int IntKind.u64 0, Value.int IntKind.u64 0, Value.int IntKind.u64 0, Value.int IntKind.u64 0, Value.int IntKind.u64 0, Value.int IntKind.u64 0, Value.int IntKind.u64 0, Value.int IntKind.u64 0, Value.int IntKind.u64 0, Value.int IntKind.u64 0, Value.int IntKind.u64 0, Value.int IntKind.u64 0, Value.int IntKind.u64 0, Value.int IntKind.u64 0, Value.int IntKind.u64 0, Value.int IntKind.i64 0, Value.slice none 0 0, Value.int IntKind.i64 0, Value.int IntKind.i64 0, Value.int IntKind.i64 0, Value.bool false, Value.int IntKind.i64 0, Value.int IntKind.u64 0, Value.int IntKind.u64 0, Value.int IntKind.u64 0, Value.int IntKind.u64 0, Value.int IntKind.u64 0, Value.int IntKind.u64 0, Value.int IntKind.u64 0, Value.int IntKind.u64 0, Value.int IntKind.u64 0, Value.int IntKind.u64 0, Value.int IntKind.u64 0, Value.int IntKind.u64 0, Value.slice none 0 0] 33) = V1 at *
          clear hv
          try simp only [Act.put, List.setIfInBounds_toArray, List.set_cons_zero, List.set_cons_succ]
          refine seqCall 8 rfl (by kernel_rfl) rfl (fun K hK => ?_)
          go_simp
          have X6 := Lib.hid (Blk.new V1 #[Value.int IntKind.i64 0, Value.int IntKind.i64 0, Value.int IntKind.i64 0, Value.int IntKind.i64 0, Value.int IntKind.u64 0, Value.int IntKind.u64 0, Value.int IntKind.u64 0, Value.int IntKind.u64 0, Value.int IntKind.u64 0, Value.int IntKind.u64 0, Value.int IntKind.u64 0, Value.int IntKind.u64 0, Value.int IntKind.u64 0, Value.int IntKind.u64 0, Value.int IntKind.u64 0, Value.int IntKind.u64 0, Value.int IntKind.u64 0, Value.int IntKind.u64 0, Value.int IntKind.u64 0, Value.int IntKind.u64 0, Value.int IntKind.u64 0, Value.int IntKind.u64 0, Value.int IntKind.u64 0, Value.int IntKind.u64 0, Value.int IntKind.u64 0, Value.int IntKind.u64 0, Value.int IntKind.u64 0, Value.int IntKind.u64 0, Value.int IntKind.i64 0, Value.slice none 0 0, Value.int IntKind.i64 0, Value.int IntKind.i64 0, Value.int IntKind.i64 0, Value.bool false, Value.int IntKind.i64 0, Value.int IntKind.u64 0, Value.int IntKind.u64 0, Value.int IntKind.u64 0, Value.int IntKind.u64 0, Value.int IntKind.u64 0, Value.int IntKind.u64 0, Value.int IntKind.u64 0, Value.int IntKind.u64 0, Value.int IntKind.u64 0, Value.int IntKind.u64 0, Value.int IntKind.u64 0, Value.int IntKind.u64 0, Value.slice none 0 0] 33)
          have G6 := Lib.hid (show w.heap.size ≤ V1.heap.size from hS.size)
          have D := Lib.hid (show W.heap.size ≠ V1.heap.size by have := X7.out.lt; omega)
          have X7 := Lib.hid (X7.out.old (.cells #[Value.int IntKind.i64 0, Value.int IntKind.i64 0, Value.int IntKind.i64 0, Value.int IntKind.i64 0, Value.int IntKind.u64 0, Value.int IntKind.u64 0, Value.int IntKind.u64 0, Value.int IntKind.u64 0, Value.int IntKind.u64 0, Value.int IntKind.u64 0, Value.int IntKind.u64 0, Value.int IntKind.u64 0, Value.int IntKind.u64 0, Value.int IntKind.u64 0, Value.int IntKind.u64 0, Value.int IntKind.u64 0, Value.int IntKind.u64 0, Value.int IntKind.u64 0, Value.int IntKind.u64 0, Value.int IntKind.u64 0, Value.int IntKind.u64 0, Value.int IntKind.u64 0, Value.int IntKind.u64 0, Value.int IntKind.u64 0, Value.int IntKind.u64 0, Value.int IntKind.u64 0, Value.int IntKind.u64 0, Value.int IntKind.u64 0, Value.int IntKind.i64 0, Value.slice none 0 0, Value.int IntKind.i64 0, Value.int IntKind.i64 0, Value.int IntKind.i64 0, Value.bool false, Value.int IntKind.i64 0, Value.int IntKind.u64 0, Value.int IntKind.u64 0, Value.int IntKind.u64 0, Value.int IntKind.u64 0, Value.int IntKind.u64 0, Value.int IntKind.u64 0, Value.int IntKind.u64 0, Value.int IntKind.u64 0, Value.int IntKind.u64 0, Value.int IntKind.u64 0, Value.int IntKind.u64 0, Value.int IntKind.u64 0, Value.slice none 0 0] 33))
          refine hK.out _ _ (hS.trans ((below1 _ _).mono hS.size)) (fun hS => ?_)
          clear hK K
          generalize hv : V1.alloc (.cells #[Value.int IntKind.i64 0, Value.int IntKind.i64 0, Value.int IntKind.i64 0, Value.int IntKind.i64 0, Value.int IntKind.u64 0, Value.int IntKind.u64 0, Value.int IntKind.u64 0, Value.int IntKind.u64 0, Value.int IntKind.u64 0, Value.int IntKind.u64 0, Value.int IntKind.u64 0, Value.int IntKind.u64 0, Value.int IntKind.u64 0, Value.int IntKind.u64 0, Value.int IntKind.u64 0, Value.int IntKind.u64 0, Value.int IntKind.u64 0, Value.int IntKind.u64 0, Value.int IntKind.u64 0, Value.int IntKind.u64 0, Value.int IntKind.u64 0, Value.int IntKind.u64 0, Value.int IntKind.u64 0, Value.int IntKind.u64 0, Value.int IntKind.u64 0, Value.int IntKind.u64 0, Value.int IntKind.u64 0, Value.int IntKind.u64 0, Value.int IntKind.i64 0, Value.slice none 0 0, Value.int IntKind.i64 0, Value.int IntKind.i64 0, Value.int IntKind.i64 0, Value.bool false, Value.int IntKind.i64 0, Value.int IntKind.u64 0, Value.int IntKind.u64 0, Value.int IntKind.u64 0, Value.int IntKind.u64 0, Value.int IntKind.u64 0, Value.int IntKind.u64 0, Value.int IntKind.u64 0, Value.int IntKind.u64 0, Value.int IntKind.u64 0, Value.int IntKind.u64 0, Value.int IntKind.u64 0, Value.int IntKind.u64 0, Value.slice none 0 0] 33) = V2 at *
          clear hv
          try simp only [Act.put, List.setIfInBounds_toArray, List.set_cons_zero, List.set_cons_succ]
          refine seqCall 10 rfl (by kernel_rfl) rfl (fun K hK => ?_)
          refine wp_store_row 33 _ _ rfl V1.heap.size (gca a) rfl rfl 33 _ X6.out (by kernel_rfl) rfl (gca_one _) (hK.out _ _ (below_setRow hS G6.out _) (fun hS => ?_))
          clear hK K
          have X6 := Lib.hid (X6.out.rset (gca a))
          have X7 := Lib.hid (show Blk W.heap.size _ 33 (V2.setRow V1.heap.size (gca a)) from (setRow_other _ _ _ _ (by have := D.out; omega)).trans X7.out)
          generalize hv : V2.setRow V1.heap.size (gca a) = V3 at *
          clear hv
          try simp only [Act.put]
          refine seqCall 11 rfl (by kernel_rfl) rfl (fun K hK => ?_)
          refine wp_store_row 33 _ _ rfl W.heap.size (gca b) rfl rfl 33 _ X7.out (by kernel_rfl) rfl (gca_one _) (hK.out _ _ (below_setRow hS G7.out _) (fun hS => ?_))
          clear hK K
          have X7 := Lib.hid (X7.out.rset (gca b))
          have X6 := Lib.hid (show Blk V1.heap.size _ 33 (V3.setRow W.heap.size (gca b)) from (setRow_other _ _ _ _ (by have := D.out; omega)).trans X6.out)
          generalize hv : V3.setRow W.heap.size (gca b) = V4 at *
          clear hv
          try simp only [Act.put]
          refine seqDone (by kernel_rfl) ?_
          have hT : TwG w V1.heap.size W.heap.size a b V4 := ⟨X6.out, X7.out, hS⟩
          clear X6 X7 G6 G7 D hS
          go_wp2_with fail
          go_meet
          case rel => exact ⟨_, _, rfl, rfl, hT⟩
      case rest =>
        obtain ⟨B1, B2, rfl, rfl, hT⟩ := hcut
        have HS := Lib.hid hT
        clear hT
        obtain ⟨a0, a1, a2, aM, _⟩ := HS.out.1.cellsG
        obtain ⟨b0, b1, b2, bM, _⟩ := HS.out.2.1.cellsG
        have MA := Lib.hid aM
        have MB := Lib.hid bM
        have HC := Lib.hid (rsamem_any a.mod b.mod HLM.out wc (HIa.out.1.below HS.out.2.2) (HIb.out.1.below HS.out.2.2))
        clear aM bM
        by_cases h0 : a.kind = b.kind
        rotate_left
        · have h0d := eq_false0 h0
          have h0n := bneT h0
          have h0f := Lib.hid h0d
          clear h0d
          go_wp2_with fail
          go_ret
          exact ⟨ret_bool (by rw [HY.out, h0f.out]; rfl), HS.out.2.2⟩
        have h0d := eq_true0 h0
        have h0n := bneF h0
        have h0f := Lib.hid h0d
        clear h0d
        by_cases h1 : a.txn = b.txn
        rotate_left
        · have h1d := eq_false0 h1
          have h1n := bneT h1
          have h1f := Lib.hid h1d
          clear h1d
          go_wp2_with fail
          go_ret
          exact ⟨ret_bool (by rw [HY.out, h0f.out, h1f.out]; rfl), HS.out.2.2⟩
        have h1d := eq_true0 h1
        have h1n := bneF h1
        have h1f := Lib.hid h1d
        clear h1d
        by_cases h2 : a.e = b.e
        rotate_left
        · have h2d := eq_false0 h2
          have h2n := bneT h2
          have h2f := Lib.hid h2d
          clear h2d
          go_wp2_with fail
          go_ret
          exact ⟨ret_bool (by rw [HY.out, h0f.out, h1f.out, h2f.out]; rfl), HS.out.2.2⟩
        have h2d := eq_true0 h2
        have h2n := bneF h2
        have h2f := Lib.hid h2d
        clear h2d
        cases hm : mEq a.mod.u b.mod.u
        · rw [hm] at HC
          have HM := Lib.hid hm
          clear hm
          go_wp2_with (first
            | (refine loadMidG rfl 30 (.tmp 47) rfl B1 3 rfl (mcl a.mod) _ MA.out Tryd.underlying30 rfl (by rw [mcl_len]; exact infoM) ?_)
            | (refine loadMidG rfl 30 (.tmp 49) rfl B2 3 rfl (mcl b.mod) _ MB.out Tryd.underlying30 rfl (by rw [mcl_len]; exact infoM) ?_)
            | (go_at_call 25; refine HC.out.mono ?_; rintro e V1 ⟨rfl, hw1⟩; refine Hid.out ?_))
          have HS1 := Lib.hid (HS.out.below hw1)
          clear hw1 HC HS
          refine Lib.hid ?_
          go_wp2_with fail
          go_ret
          exact ⟨ret_bool (by rw [HY.out, h0f.out, h1f.out, h2f.out, HM.out]; rfl), HS1.out.2.2⟩
        rw [hm] at HC
        have HM := Lib.hid hm
        clear hm
        go_wp2_with (first
          | (refine loadMidG rfl 30 (.tmp 47) rfl B1 3 rfl (mcl a.mod) _ MA.out Tryd.underlying30 rfl (by rw [mcl_len]; exact infoM) ?_)
          | (refine loadMidG rfl 30 (.tmp 49) rfl B2 3 rfl (mcl b.mod) _ MB.out Tryd.underlying30 rfl (by rw [mcl_len]; exact infoM) ?_)
          | (go_at_call 25; refine HC.out.mono ?_; rintro e V1 ⟨rfl, hw1⟩; refine Hid.out ?_))
        have HS1 := Lib.hid (HS.out.below hw1)
        clear hw1 HC HS MA MB a0 a1 a2 b0 b1 b2
        obtain ⟨_, _, _, _, a34, aH, a47⟩ := HS1.out.1.cellsG
        obtain ⟨_, _, _, _, b34, bH, b47⟩ := HS1.out.2.1.cellsG
        have MHa := Lib.hid aH
        have MHb := Lib.hid bH
        clear aH bH
        have heq := eqlHH a.head b.head V1
        have hgd := guardHead
        have HR := Lib.hid (rsame_rules _ _ a.rs b.rs HLa.out HWb.out V1 (HIa.out.2.below HS1.out.2.2) (HIb.out.2.below HS1.out.2.2))
        refine Lib.hid ?_
        by_cases h3 : a.port = b.port
        rotate_left
        · have h3d := eq_false0 h3
          have h3n := bneT h3
          have h3f := Lib.hid h3d
          clear h3d
          go_wp2_with fail
          go_ret
          exact ⟨ret_bool (by rw [HY.out, h0f.out, h1f.out, h2f.out, HM.out, h3f.out]; rfl), HS1.out.2.2⟩
        have h3d := eq_true0 h3
        have h3n := bneF h3
        have h3f := Lib.hid h3d
        clear h3d
        cases hh : hEq a.head b.head
        · rw [hh] at heq
          have HH := Lib.hid hh
          clear hh
          go_wp2_with (first
            | (refine loadMidG rfl 25 (.tmp 62) rfl B1 35 rfl (hl a.head) _ MHa.out Tryd.underlying25 rfl infoHead ?_)
            | (refine loadMidG rfl 25 (.tmp 64) rfl B2 35 rfl (hl b.head) _ MHb.out Tryd.underlying25 rfl infoHead ?_))
          go_ret
          exact ⟨ret_bool (by rw [HY.out, h0f.out, h1f.out, h2f.out, HM.out, h3f.out, HH.out]; rfl), HS1.out.2.2⟩
        rw [hh] at heq
        have HH := Lib.hid hh
        clear hh
        cases hr : sameL (a.rs.map (·.u)) (b.rs.map (·.u))
        · rw [hr] at HR
          have HQ := Lib.hid hr
          clear hr
          go_wp2_with (first
            | (refine loadMidG rfl 25 (.tmp 62) rfl B1 35 rfl (hl a.head) _ MHa.out Tryd.underlying25 rfl infoHead ?_)
            | (refine loadMidG rfl 25 (.tmp 64) rfl B2 35 rfl (hl b.head) _ MHb.out Tryd.underlying25 rfl infoHead ?_)
            | (go_at_call 35; refine HR.out.mono ?_; rintro e V2 ⟨rfl, hw2⟩; refine Hid.out ?_))
          have HS2 := Lib.hid (HS1.out.below hw2)
          clear hw2 HR HS1
          refine Lib.hid ?_
          go_wp2_with fail
          go_ret
          exact ⟨ret_bool (by rw [HY.out, h0f.out, h1f.out, h2f.out, HM.out, h3f.out, HH.out, HQ.out]; rfl), HS2.out.2.2⟩
        rw [hr] at HR
        have HQ := Lib.hid hr
        clear hr
        go_wp2_with (first
          | (refine loadMidG rfl 25 (.tmp 62) rfl B1 35 rfl (hl a.head) _ MHa.out Tryd.underlying25 rfl infoHead ?_)
          | (refine loadMidG rfl 25 (.tmp 64) rfl B2 35 rfl (hl b.head) _ MHb.out Tryd.underlying25 rfl infoHead ?_)
          | (go_at_call 35; refine HR.out.mono ?_; rintro e V2 ⟨rfl, hw2⟩; refine Hid.out ?_))
        have HS2 := Lib.hid (HS1.out.below hw2)
        clear hw2 HR HS1
        refine Lib.hid ?_
        go_wp2_with fail
        go_roundg (1 - (r + 1))
        case measure => omega
        case rel => exact ⟨r + 1, by omega, by go_num, fun _ => by rw [HY.out, h0f.out, h1f.out, h2f.out, HM.out, h3f.out, HH.out, HQ.out]; rfl, HS2.out.2.2⟩
    · have hltI : ¬ (r : Int) < 1 := by omega
      go_wp2_with fail
      go_ret
      exact ⟨ret_bool (HYT.out (by omega)).symm, HK.out⟩
end Go.Proofs.YtndgbgolmpoepaaDoor
