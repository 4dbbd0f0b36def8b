/-
  What a reader of frames reads a length with; slices.Clone of bytes; remove.
-/
import Derived.Test.YtdcekbmoihmjkaaFrmFd
namespace Go.Proofs.Ytdcekbmoihmjkaa
set_option maxRecDepth 20000
open Go.RowKit

theorem orB32 {v x : Int} (h0 : 0 ≤ v) (h1 : v < 16777216) (x0 : 0 ≤ x) (x1 : x < 256) : bits .or .u32 (v * 256) x = v * 256 + x :=
  bits_join .u32 32 (by decide) wraps_u32 8 (v * 256) x (by omega) (by omega) (by omega) x0 (by omega) (by omega)
theorem powB_mono : ∀ {a b : Nat}, a ≤ b → powB a ≤ powB b := fun {a b} hab => by
  induction hab with
  | refl => exact Int.le_refl _
  | step _ ih => have := powB_pos a; show powB a ≤ powB _ * 256; omega
theorem valB_lt {l : List Int} (hb : ByL l) {r s : Nat} (hr : r ≤ s) : 0 ≤ valB (l.take r) ∧ valB (l.take r) < powB s := by
  have h := (num_val _ (l.take r) rfl (hb.take r)).2
  have hl : (l.take r).length ≤ s := by rw [List.length_take]; omega
  have := powB_mono hl
  omega
theorem powB_3 : powB 3 = 16777216 := by decide
set_option maxHeartbeats 1000000 in
theorem flength_any (v : Value) (l : List Int) (h4 : 4 ≤ l.length) (hb : ByL l) (w : World) (hl : KLies KB v l w) :
    Calls Try.prog 15 #[v] w fun e w' => e = .returned (.int .u32 (valB (l.take 4))) ∧ w' = w := by
  obtain ⟨p, c, rfl⟩ := hl.form
  have HL := Lib.hid hl
  have HB := Lib.hid hb
  have HN := Lib.hid (And.intro h4 hl.capLe)
  clear hl hb h4
  obtain ⟨n, hn⟩ : ∃ n, n = l.length := ⟨_, rfl⟩
  rw [← hn] at HN HL ⊢
  have HNN := Lib.hid hn
  clear hn
  go_enter Try.func15, Try.ntmps15
  go_wp2_with (refine wpUptoB rfl _ _ rfl p n c 4 rfl rfl HN.out.1 HN.out.2 ?_)
  go_loopg [3, 9] 4 (fun k v i wr => ∃ r : Nat, r + k = 4 ∧ i = .int .i64 r ∧ v = .int .u32 (valB (l.take r)) ∧ wr = w)
  case atStart => exact ⟨0, by omega, rfl, rfl, rfl⟩
  case round =>
    obtain ⟨r, hr, rfl, rfl, rfl⟩ := hrel
    by_cases hlt : r < 4
    · have hltI : (r : Int) < 4 := by omega
      obtain ⟨x, hx⟩ := lt_some (l := l) (i := r) (by have := HN.out.1; have := HNN.out; omega)
      obtain ⟨bb, o, rfl, hc⟩ := cellB HL.out hx
      obtain ⟨hv0, hv1⟩ := valB_lt HB.out (r := r) (s := 3) (by omega)
      rw [powB_3] at hv1
      have hxb := HB.out x (List.mem_of_getElem? hx)
      have hor := Lib.hid (orB32 hv0 hv1 hxb.1 hxb.2)
      have HT := Lib.hid (valB_take hx)
      clear hx
      generalize valB (l.take r) = V at *
      go_wp2_with fail
      go_roundg (4 - (r + 1))
      case measure => omega
      case rel => exact ⟨r + 1, by omega, by go_num, by rw [HT.out, ← hor.out], rfl⟩
    · have hltI : ¬ (r : Int) < 4 := by omega
      obtain rfl : r = 4 := by omega
      go_wp2_with fail
      go_ret
      exact ⟨rfl, rfl⟩
theorem bclone_any (v : Value) (l : List Int) (hlen : l.length ≤ 140737488355328) (w : World) (hl : KLies KB v l w) :
    Calls Try.prog 16 #[v] w (OwnRet KB w l) := by
  rcases hl with ⟨rfl, rfl⟩ | ⟨ad, cap, rfl, hcap, hr⟩
  · have HO := Lib.hid (KOwns.nil (K := KB) w.heap.size w)
    go_enter Try.func16, Try.ntmps16
    have hq := Lib.run_eql_slice_nil (P := Try.prog) w 22 5 none 0 0 0 0 Try.underlying22
    go_wp2
    go_ret
    exact ⟨_, rfl, HO.out, Below.refl _ _⟩
  · have HL := Lib.hid (show KLies KB (.slice (some ad) l.length cap) l (w.alloc (.cells #[] 5)) from (show KLies KB (.slice (some ad) l.length cap) l w from .inr ⟨ad, cap, rfl, hcap, hr⟩).below okB (below1 _ _))
    have hq := Lib.run_eql_slice_nil (P := Try.prog) w 22 5 (some ad) l.length cap 0 0 Try.underlying22
    clear hr
    go_enter Try.func16, Try.ntmps16
    go_wp2_with (first
      | (refine kbuildNone KB okB rfl rfl ?_)
      | (refine kappendB KB okB rfl _ _ rfl w.heap.size _ [] l rfl (KOwns.built w _ (Nat.le_refl _)) _ rfl HL.out (by simp) (by show (0 + l.length) * 1 ≤ _; omega) (fun v' w' ho hg => ?_)))
    have hb := kbelowOwn (below1 w (.cells #[] 5)) (KOwns.built (K := KB) w w.heap.size (Nat.le_refl _)) (Nat.le_refl _) hg
    go_ret
    exact ⟨_, rfl, ho, hb⟩
set_option maxHeartbeats 4000000 in
theorem fremove_any (b : Nat) (v : Value) (l : List Int) (k m : Nat) (hm : k + m ≤ l.length) (hlen : l.length ≤ 4000000) (w : World) (hB : Blk b #[v, .int .i64 (k : Int), .int .i64 0] 39 w) (hO : KOwns KB (b + 1) v l w) :
    Calls Try.prog 17 #[.pointer (some ⟨b, 0, none⟩), .int .i64 (m : Int)] w (FdRet b v (l.drop (k + m)) false w) := by
  obtain ⟨p, c, rfl⟩ := hO.form
  have R0 := Lib.hid hB
  have HO := Lib.hid hO
  have c1 : w.cell? ⟨b, 1, none⟩ = some (.int .i64 (k : Int)) := (cell_of_row w b 1 _ _ _ hB).trans rfl
  obtain ⟨k1, hk1⟩ : ∃ k1, k1 = k + m := ⟨_, rfl⟩
  rw [← hk1] at hm ⊢
  have e1 : IntKind.i64.wrap ((k : Int) + (m : Int)) = (k1 : Int) := by simp only [IntKind.wrap_i64]; omega
  have e2 : wrap64 ((k : Int) + (m : Int)) = (k1 : Int) := by simp only [wrap64]; omega
  have HK1 := Lib.hid hm
  have HLEN := Lib.hid hlen
  obtain ⟨n, hn⟩ : ∃ n, n = l.length := ⟨_, rfl⟩
  have HNN := Lib.hid hn
  rw [← hn] at R0 HO ⊢
  clear hB hO hn hk1
  go_enter Try.func17, Try.ntmps17
  go_wp2_with (refine storeCell rfl 3 _ _ rfl b 1 (.int .i64 (k1 : Int)) rfl (by first | rfl | exact congrArg (Value.int .i64) e1 | exact congrArg (Value.int .i64) e2) rfl (R0.out.there (by simp)) infoInt1 ?_; refine Hid.out ?_)
  have R1 := Lib.hid (show Blk b #[.slice p n c, .int .i64 (k1 : Int), .int .i64 0] 39 (w.setCell ⟨b, 1, none⟩ (.int .i64 (k1 : Int))) by simpa using R0.out.one (k := 1) (.int .i64 (k1 : Int)))
  have HO1 := Lib.hid (show KOwns KB (b + 1) (.slice p n c) l (w.setCell ⟨b, 1, none⟩ (.int .i64 (k1 : Int))) from HO.out.at fun g hg => heap_setCell_other _ _ _ _ (by have := HO.out.lt g hg; show g ≠ b; omega))
  have HF := Lib.hid (show FKeep b (.slice p n c) (.slice p n c) w (w.setCell ⟨b, 1, none⟩ (.int .i64 (k1 : Int))) from ⟨(Below.refl b w).setCell (Nat.le_refl _) _, fun g _ hne _ => heap_setCell_other _ _ _ _ (by show g ≠ b; exact hne), fun _ h => .inl h⟩)
  clear c1 e1 e2 R0 HO hm hlen
  generalize w.setCell ⟨b, 1, none⟩ (.int .i64 (k1 : Int)) = W1 at *
  have c0 : W1.cell? ⟨b, 0, none⟩ = some (.slice p n c) := (cell_of_row W1 b 0 _ _ _ R1.out).trans rfl
  have c1 : W1.cell? ⟨b, 1, none⟩ = some (.int .i64 (k1 : Int)) := (cell_of_row W1 b 1 _ _ _ R1.out).trans rfl
  have hsI : wrap64 ((n : Int) - (k1 : Int)) = (n : Int) - (k1 : Int) := by have := HK1.out; have := HNN.out; have := HLEN.out; simp only [wrap64]; omega
  have hsI2 : IntKind.i64.wrap ((n : Int) - (k1 : Int)) = (n : Int) - (k1 : Int) := by have := HK1.out; have := HNN.out; have := HLEN.out; simp only [IntKind.wrap_i64]; omega
  refine Lib.hid ?_
  by_cases hge : n - k1 ≤ k1
  · have hgeI : (n : Int) - (k1 : Int) ≤ (k1 : Int) := by have := HK1.out; have := HNN.out; omega
    clear hge
    go_upto_region 1 with fail
    go_quiet (fail)
    have HBd := Lib.hid (belowDrewN W1 nq)
    have R2 := Lib.hid (R1.out.below HBd.out)
    have HO2 := Lib.hid (HO1.out.below HBd.out)
    have HF2 := Lib.hid (HF.out.trans (FKeep.of HBd.out (Nat.le_of_lt R1.out.lt)))
    clear R1 HO1 HF c0 c1 hsI hsI2 HBd
    generalize W1.drewN nq = W5 at *
    go_upto_region 2 with fail
    have R1 := Lib.hid (show Blk b #[.slice p n c, .int .i64 (k1 : Int), .int .i64 0] 39 W5.drew from R2.out.drew)
    have HO1 := Lib.hid (HO2.out.below (Below.refl _ W5).drew)
    have HF := Lib.hid (HF2.out.trans (FKeep.of (Below.refl _ W5).drew (Nat.le_of_lt R2.out.lt)))
    refine wp_region_held_drew (S := fun _ => True) (by kernel_rfl) trivial (fun hS => ?_)
    clear R2 HO2 HF2 hgeI
    generalize W5.drew = W at *
    have HLT := Lib.hid R1.out.lt
    have HC := Lib.hid (bclone_any (fromV 1 p n c k1) (l.drop k1) (by rw [List.length_drop]; have := HLEN.out; omega) W (by have h := HO1.out.lies okB; rw [HNN.out] at h ⊢; exact h.from HK1.out))
    clear HO1
    refine seqRead 0 (v := _) rfl (by kernel_rfl) (by kernel_rfl) (by kernel_rfl) (fun _ _ _ h => h) rfl (fun w hSw => by go_simp <;> with_reducible rfl) hS ?_
    try simp only [Act.put, List.setIfInBounds_toArray, List.set_cons_zero, List.set_cons_succ]
    refine seqRead 1 (v := _) rfl (by kernel_rfl) (by kernel_rfl) (by kernel_rfl) (fun _ _ _ h => h) rfl (fun w hSw => by go_simp <;> with_reducible rfl) hS ?_
    try simp only [Act.put, List.setIfInBounds_toArray, List.set_cons_zero, List.set_cons_succ]
    refine seqRead 2 (v := _) rfl (by kernel_rfl) (by kernel_rfl) (by kernel_rfl) (fun _ _ _ h => h) rfl (fun w hSw => by go_simp <;> with_reducible rfl) hS ?_
    try simp only [Act.put, List.setIfInBounds_toArray, List.set_cons_zero, List.set_cons_succ]
    refine seqRead 3 (v := _) rfl (by kernel_rfl) (by kernel_rfl) (by kernel_rfl) (fun _ _ _ h => h) rfl (fun w hSw => by go_simp <;> with_reducible rfl) hS ?_
    try simp only [Act.put, List.setIfInBounds_toArray, List.set_cons_zero, List.set_cons_succ]
    refine seqRead 5 (v := _) rfl (by kernel_rfl) (by kernel_rfl) (by kernel_rfl) (fun _ _ _ h => h) rfl (fun w hSw => by go_simp <;> with_reducible rfl) hS ?_
    try simp only [Act.put, List.setIfInBounds_toArray, List.set_cons_zero, List.set_cons_succ]
    refine seqRead 6 (v := _) rfl (by kernel_rfl) (by kernel_rfl) (by kernel_rfl) (fun _ _ _ h => h) rfl (fun w hSw => by go_simp <;> with_reducible rfl) hS ?_
    try simp only [Act.put, List.setIfInBounds_toArray, List.set_cons_zero, List.set_cons_succ]
    refine seqRead 7 (v := _) rfl (by kernel_rfl) (by kernel_rfl) (by kernel_rfl) (fun _ _ _ h => h) rfl (fun w hSw => by go_simp <;> with_reducible rfl) hS ?_
    try simp only [Act.put, List.setIfInBounds_toArray, List.set_cons_zero, List.set_cons_succ]
    refine seqActs2 4 8 rfl rfl (by kernel_rfl) rfl (fun K hK => ?_) rfl (fun K hK => ?_)
    · have c0 : W.cell? ⟨b, 0, none⟩ = some (.slice p n c) := (cell_of_row _ b 0 _ _ _ R1.out).trans rfl
      refine readWp (.slice p n c) (by go_simp <;> with_reducible rfl) ?_
      refine hK.out _ _ trivial (fun hS => ?_)
      clear hK K c0
      try simp only [Act.put, List.setIfInBounds_toArray, List.set_cons_zero, List.set_cons_succ]
      refine seqCall 8 rfl (by kernel_rfl) rfl (fun K hK => ?_)
      have c1 : W.cell? ⟨b, 1, none⟩ = some (.int .i64 (k1 : Int)) := (cell_of_row _ b 1 _ _ _ R1.out).trans rfl
      refine readWp (.int .i64 (k1 : Int)) (by go_simp <;> with_reducible rfl) ?_
      refine hK.out _ _ trivial (fun hS => ?_)
      clear hK K c1
      try simp only [Act.put, List.setIfInBounds_toArray, List.set_cons_zero, List.set_cons_succ]
      refine seqRead 9 (v := _) rfl (by kernel_rfl) (by kernel_rfl) (by kernel_rfl) (fun _ _ _ h => h) rfl (fun w hSw => execFromB rfl p n c k1 rfl rfl (by rw [HNN.out]; exact HK1.out)) hS ?_
      try simp only [Act.put, List.setIfInBounds_toArray, List.set_cons_zero, List.set_cons_succ]
      refine seqCall 10 rfl (by kernel_rfl) rfl (fun K hK => ?_)
      go_simp
      refine (HC.out).mono ?_
      rintro e W2 ⟨v2, rfl, ho, hw2⟩
      obtain ⟨p2, c2, rfl⟩ := ho.form
      have R2 := Lib.hid (R1.out.below hw2)
      have HO2 := Lib.hid ho
      have HW2 := Lib.hid hw2
      clear ho hw2 HC R1
      refine hK.out _ _ trivial (fun hS => ?_)
      clear hK K
      try simp only [Act.put, List.setIfInBounds_toArray, List.set_cons_zero, List.set_cons_succ]
      refine seqRead 11 (v := _) rfl (by kernel_rfl) (by kernel_rfl) (by kernel_rfl) (fun _ _ _ h => h) rfl (fun w hSw => by go_simp <;> with_reducible rfl) hS ?_
      try simp only [Act.put, List.setIfInBounds_toArray, List.set_cons_zero, List.set_cons_succ]
      refine seqRead 12 (v := _) rfl (by kernel_rfl) (by kernel_rfl) (by kernel_rfl) (fun _ _ _ h => h) rfl (fun w hSw => by go_simp <;> with_reducible rfl) hS ?_
      try simp only [Act.put, List.setIfInBounds_toArray, List.set_cons_zero, List.set_cons_succ]
      refine seqCall 13 rfl (by kernel_rfl) rfl (fun K hK => ?_)
      refine storeCellWp 22 _ _ rfl b 0 (.slice p2 (l.drop k1).length c2) rfl rfl rfl (R2.out.there (by simp)) infoBs ?_
      refine hK.out _ _ trivial (fun hS => ?_)
      clear hK K
      try simp only [Act.put]
      refine seqDone (by kernel_rfl) ?_
      have R3 := Lib.hid (show Blk b #[.slice p2 (l.drop k1).length c2, .int .i64 (k1 : Int), .int .i64 0] 39 (W2.setCell ⟨b, 0, none⟩ (.slice p2 (l.drop k1).length c2)) by simpa using R2.out.one (k := 0) (.slice p2 (l.drop k1).length c2))
      have HO3 := Lib.hid (show KOwns KB (b + 1) (.slice p2 (l.drop k1).length c2) (l.drop k1) (W2.setCell ⟨b, 0, none⟩ (.slice p2 (l.drop k1).length c2)) from (KOwns.mono HO2.out (Nat.succ_le_of_lt HLT.out)).at fun g hg => heap_setCell_other _ _ _ _ (by have := HO2.out.lt g hg; have := HLT.out; show g ≠ b; omega))
      have HF3 := Lib.hid (show FKeep b (.slice p n c) (.slice p2 (l.drop k1).length c2) w (W2.setCell ⟨b, 0, none⟩ (.slice p2 (l.drop k1).length c2)) from HF.out.trans ⟨(HW2.out.mono (Nat.le_of_lt HLT.out)).setCell (Nat.le_refl _) _, fun g hlt hne _ => (heap_setCell_other _ _ _ _ (by show g ≠ b; exact hne)).trans (HW2.out.block g hlt), fun g hg => .inr (HO2.out.lt g hg).1⟩)
      clear R2 HO2 HW2 HF hS
      generalize W2.setCell ⟨b, 0, none⟩ (.slice p2 (l.drop k1).length c2) = W3 at *
      go_wp2_with (refine storeCell rfl 3 _ _ rfl b 1 (.int .i64 0) rfl rfl rfl (R3.out.there (by simp)) infoInt1 ?_; refine Hid.out ?_)
      have R4 := Lib.hid (show Blk b #[.slice p2 (l.drop k1).length c2, .int .i64 0, .int .i64 0] 39 (W3.setCell ⟨b, 1, none⟩ (.int .i64 0)) by simpa using R3.out.one (k := 1) (.int .i64 0))
      have HO4 := Lib.hid (show KOwns KB (b + 1) (.slice p2 (l.drop k1).length c2) (l.drop k1) (W3.setCell ⟨b, 1, none⟩ (.int .i64 0)) from HO3.out.at fun g hg => heap_setCell_other _ _ _ _ (by have := HO3.out.lt g hg; show g ≠ b; omega))
      have HF4 := Lib.hid (show FKeep b (.slice p n c) (.slice p2 (l.drop k1).length c2) w (W3.setCell ⟨b, 1, none⟩ (.int .i64 0)) from ⟨HF3.out.below.setCell (Nat.le_refl _) _, fun g hlt hne hv => (heap_setCell_other _ _ _ _ (by show g ≠ b; exact hne)).trans (HF3.out.keep g hlt hne hv), HF3.out.own⟩)
      clear R3 HO3 HF3
      generalize W3.setCell ⟨b, 1, none⟩ (.int .i64 0) = W4 at *
      refine Lib.hid ?_
      go_wp2_with fail
      refine bodyPost_end (results_none rfl _ _ _) rfl ?_
      exact ⟨rfl, _, ⟨l.drop k1, 0, 0, R4.out, HO4.out, Nat.zero_le _, by omega, by omega, fun h => (by cases h), fun _ => ⟨rfl, rfl⟩⟩, HF4.out⟩
    · have c1 : W.cell? ⟨b, 1, none⟩ = some (.int .i64 (k1 : Int)) := (cell_of_row _ b 1 _ _ _ R1.out).trans rfl
      refine readWp (.int .i64 (k1 : Int)) (by go_simp <;> with_reducible rfl) ?_
      refine hK.out _ _ trivial (fun hS => ?_)
      clear hK K c1
      try simp only [Act.put, List.setIfInBounds_toArray, List.set_cons_zero, List.set_cons_succ]
      refine seqCall 4 rfl (by kernel_rfl) rfl (fun K hK => ?_)
      have c0 : W.cell? ⟨b, 0, none⟩ = some (.slice p n c) := (cell_of_row _ b 0 _ _ _ R1.out).trans rfl
      refine readWp (.slice p n c) (by go_simp <;> with_reducible rfl) ?_
      refine hK.out _ _ trivial (fun hS => ?_)
      clear hK K c0
      try simp only [Act.put, List.setIfInBounds_toArray, List.set_cons_zero, List.set_cons_succ]
      refine seqRead 9 (v := _) rfl (by kernel_rfl) (by kernel_rfl) (by kernel_rfl) (fun _ _ _ h => h) rfl (fun w hSw => execFromB rfl p n c k1 rfl rfl (by rw [HNN.out]; exact HK1.out)) hS ?_
      try simp only [Act.put, List.setIfInBounds_toArray, List.set_cons_zero, List.set_cons_succ]
      refine seqCall 10 rfl (by kernel_rfl) rfl (fun K hK => ?_)
      go_simp
      refine (HC.out).mono ?_
      rintro e W2 ⟨v2, rfl, ho, hw2⟩
      obtain ⟨p2, c2, rfl⟩ := ho.form
      have R2 := Lib.hid (R1.out.below hw2)
      have HO2 := Lib.hid ho
      have HW2 := Lib.hid hw2
      clear ho hw2 HC R1
      refine hK.out _ _ trivial (fun hS => ?_)
      clear hK K
      try simp only [Act.put, List.setIfInBounds_toArray, List.set_cons_zero, List.set_cons_succ]
      refine seqRead 11 (v := _) rfl (by kernel_rfl) (by kernel_rfl) (by kernel_rfl) (fun _ _ _ h => h) rfl (fun w hSw => by go_simp <;> with_reducible rfl) hS ?_
      try simp only [Act.put, List.setIfInBounds_toArray, List.set_cons_zero, List.set_cons_succ]
      refine seqRead 12 (v := _) rfl (by kernel_rfl) (by kernel_rfl) (by kernel_rfl) (fun _ _ _ h => h) rfl (fun w hSw => by go_simp <;> with_reducible rfl) hS ?_
      try simp only [Act.put, List.setIfInBounds_toArray, List.set_cons_zero, List.set_cons_succ]
      refine seqCall 13 rfl (by kernel_rfl) rfl (fun K hK => ?_)
      refine storeCellWp 22 _ _ rfl b 0 (.slice p2 (l.drop k1).length c2) rfl rfl rfl (R2.out.there (by simp)) infoBs ?_
      refine hK.out _ _ trivial (fun hS => ?_)
      clear hK K
      try simp only [Act.put]
      refine seqDone (by kernel_rfl) ?_
      have R3 := Lib.hid (show Blk b #[.slice p2 (l.drop k1).length c2, .int .i64 (k1 : Int), .int .i64 0] 39 (W2.setCell ⟨b, 0, none⟩ (.slice p2 (l.drop k1).length c2)) by simpa using R2.out.one (k := 0) (.slice p2 (l.drop k1).length c2))
      have HO3 := Lib.hid (show KOwns KB (b + 1) (.slice p2 (l.drop k1).length c2) (l.drop k1) (W2.setCell ⟨b, 0, none⟩ (.slice p2 (l.drop k1).length c2)) from (KOwns.mono HO2.out (Nat.succ_le_of_lt HLT.out)).at fun g hg => heap_setCell_other _ _ _ _ (by have := HO2.out.lt g hg; have := HLT.out; show g ≠ b; omega))
      have HF3 := Lib.hid (show FKeep b (.slice p n c) (.slice p2 (l.drop k1).length c2) w (W2.setCell ⟨b, 0, none⟩ (.slice p2 (l.drop k1).length c2)) from HF.out.trans ⟨(HW2.out.mono (Nat.le_of_lt HLT.out)).setCell (Nat.le_refl _) _, fun g hlt hne _ => (heap_setCell_other _ _ _ _ (by show g ≠ b; exact hne)).trans (HW2.out.block g hlt), fun g hg => .inr (HO2.out.lt g hg).1⟩)
      clear R2 HO2 HW2 HF hS
      generalize W2.setCell ⟨b, 0, none⟩ (.slice p2 (l.drop k1).length c2) = W3 at *
      go_wp2_with (refine storeCell rfl 3 _ _ rfl b 1 (.int .i64 0) rfl rfl rfl (R3.out.there (by simp)) infoInt1 ?_; refine Hid.out ?_)
      have R4 := Lib.hid (show Blk b #[.slice p2 (l.drop k1).length c2, .int .i64 0, .int .i64 0] 39 (W3.setCell ⟨b, 1, none⟩ (.int .i64 0)) by simpa using R3.out.one (k := 1) (.int .i64 0))
      have HO4 := Lib.hid (show KOwns KB (b + 1) (.slice p2 (l.drop k1).length c2) (l.drop k1) (W3.setCell ⟨b, 1, none⟩ (.int .i64 0)) from HO3.out.at fun g hg => heap_setCell_other _ _ _ _ (by have := HO3.out.lt g hg; show g ≠ b; omega))
      have HF4 := Lib.hid (show FKeep b (.slice p n c) (.slice p2 (l.drop k1).length c2) w (W3.setCell ⟨b, 1, none⟩ (.int .i64 0)) from ⟨HF3.out.below.setCell (Nat.le_refl _) _, fun g hlt hne hv => (heap_setCell_other _ _ _ _ (by show g ≠ b; exact hne)).trans (HF3.out.keep g hlt hne hv), HF3.out.own⟩)
      clear R3 HO3 HF3
      generalize W3.setCell ⟨b, 1, none⟩ (.int .i64 0) = W4 at *
      refine Lib.hid ?_
      go_wp2_with fail
      refine bodyPost_end (results_none rfl _ _ _) rfl ?_
      exact ⟨rfl, _, ⟨l.drop k1, 0, 0, R4.out, HO4.out, Nat.zero_le _, by omega, by omega, fun h => (by cases h), fun _ => ⟨rfl, rfl⟩⟩, HF4.out⟩
  · have hgeI : ¬ (n : Int) - (k1 : Int) ≤ (k1 : Int) := by have := HK1.out; have := HNN.out; omega
    have HGE := Lib.hid (Nat.lt_of_not_le hge)
    clear hge
    go_upto_region 1 with fail
    go_quiet (fail)
    have HBd := Lib.hid (belowDrewN W1 nq)
    have R2 := Lib.hid (R1.out.below HBd.out)
    have HO2 := Lib.hid (HO1.out.below HBd.out)
    have HF2 := Lib.hid (HF.out.trans (FKeep.of HBd.out (Nat.le_of_lt R1.out.lt)))
    clear R1 HO1 HF c0 c1 hsI hsI2 HBd
    generalize W1.drewN nq = W5 at *
    go_wp2_with fail
    refine bodyPost_end (results_none rfl _ _ _) rfl ?_
    exact ⟨rfl, _, ⟨l, k1, 0, R2.out, HO2.out, HK1.out, by rw [List.length_drop]; have := HGE.out; have := HNN.out; omega, by rw [List.length_drop]; omega, fun h => (by cases h), fun _ => ⟨rfl, rfl⟩⟩, HF2.out⟩
end Go.Proofs.Ytdcekbmoihmjkaa
