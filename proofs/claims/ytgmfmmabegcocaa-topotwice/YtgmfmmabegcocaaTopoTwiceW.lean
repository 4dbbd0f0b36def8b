/-
  The walk of the law TopoTwice.
-/
import Derived.Test.YtgmfmmabegcocaaTopoTwiceM
namespace Go.Proofs.Ytgmfmmabegcocaa
set_option maxRecDepth 20000
open Go.RowKit

set_option maxRecDepth 100000 in
set_option maxHeartbeats 16000000 in
theorem topoTwice_any (U P R : Int) (q : Option Addr) (n c : Nat) (L : List Ln) (at0 : Int) (hat : 0 ≤ at0 ∧ at0 < 256) (tu : Bool) (w : World) (hl : KLies KN (.slice q n c) L w) (hlen : L.length * 32 ≤ 140737488355328) :
    Calls Try.prog 5 #[.agg #[.int .i64 U, .int .i64 P, .int .i64 R, .slice q n c], .int .u8 at0, .bool tu] w fun e w' => e = .returned (.bool true) ∧ Below w.heap.size w w' := by
  obtain ⟨q', c', e'⟩ := hl.form
  injection e' with e1 e2 e3
  subst e2
  clear e1 e3
  obtain ⟨n, hn⟩ : ∃ n, n = L.length := ⟨_, rfl⟩
  rw [← hn] at hl ⊢
  have HN := Lib.hid hn
  clear hn
  obtain ⟨ai, rfl⟩ : ∃ ai : Nat, at0 = ai := ⟨at0.toNat, by omega⟩
  have HAT := Lib.hid (show ai < 256 by omega)
  clear hat
  have RS0 := Lib.hid (Blk.new w (sca U P R q n c) 24)
  have HB0 := Lib.hid (below1 w (.cells (sca U P R q n c) 24))
  have HL := Lib.hid hl
  have HC := Lib.hid (rsetup_any U P R q n c L hlen (w.alloc (.cells (sca U P R q n c) 24)) (hl.below okN HB0.out))
  clear hl hlen
  change Calls Try.prog _ #[.agg (sca U P R q n c), _, _] _ _
  obtain ⟨f, hf⟩ : ∃ f, f = fault U P R L := ⟨_, rfl⟩
  have HF := Lib.hid hf
  rw [← hf] at HC
  clear hf
  have HQ : ∀ W, Below w.heap.size w W → Calls Try.prog 6 #[] W fun e w' => e = .returned (.bool true) ∧ Below w.heap.size w w' := fun W hb => (answers12 W).mono fun e w' ⟨h1, h2⟩ => ⟨h1, hb.trans (h2.mono hb.size)⟩
  have HA := Lib.hid HQ
  clear HQ
  by_cases hf0 : f = 0
  rotate_left
  · go_enter Try.func5, Try.ntmps5
    go_wp2_with (first
      | (refine wpList_load_row rfl 24 _ rfl w.heap.size rfl 24 (sca U P R q n c) (0, 0) _ RS0.out Try.underlying24 rfl infoS4 ?_)
      | (go_at_call 10; refine HC.out.mono ?_; rintro e W1 ⟨rfl, hb⟩; refine Hid.out ?_))
    have HB1 := Lib.hid (HB0.out.trans (hb.mono HB0.out.size))
    have HA1 := Lib.hid (HA.out W1 HB1.out)
    clear hb HC RS0
    refine Lib.hid ?_
    go_wp2_with (go_at_call 6; refine HA1.out.mono ?_; rintro e W2 ⟨rfl, hb⟩)
    go_ret
    exact ⟨rfl, hb⟩
  subst hf0
  go_enter Try.func5, Try.ntmps5
  go_wp2_with (first
    | (refine wpList_load_row rfl 24 _ rfl w.heap.size rfl 24 (sca U P R q n c) (0, 0) _ RS0.out Try.underlying24 rfl infoS4 ?_)
    | (go_at_call 10; refine HC.out.mono ?_; rintro e W1 ⟨rfl, hb⟩; refine Hid.out ?_))
  have HB1 := Lib.hid (HB0.out.trans (hb.mono HB0.out.size))
  have RS1 := Lib.hid (RS0.out.below hb)
  have k3 : W1.cell? ⟨w.heap.size, 3, none⟩ = some (.slice q n c) := (cell_of_row _ w.heap.size 3 _ _ _ RS1.out).trans rfl
  have HA1 := Lib.hid (HA.out W1 HB1.out)
  clear hb HC RS0 HB0
  refine Lib.hid ?_
  by_cases hn0 : n = 0
  · have hnI : (n : Int) = 0 := by omega
    subst hn0
    go_wp2_with (go_at_call 6; refine HA1.out.mono ?_; rintro e W2 ⟨rfl, hb⟩)
    go_ret
    exact ⟨rfl, hb⟩
  by_cases hn50 : 50 < n
  · have hnI : ¬ (n : Int) = 0 := by omega
    have hnJ : (50 : Int) < (n : Int) := by omega
    clear hn0 hn50
    go_wp2_with (go_at_call 6; refine HA1.out.mono ?_; rintro e W2 ⟨rfl, hb⟩)
    go_ret
    exact ⟨rfl, hb⟩
  have hnI : ¬ (n : Int) = 0 := by omega
  have hnJ : ¬ (50 : Int) < (n : Int) := by omega
  have HN9 := Lib.hid (show 0 < n ∧ n ≤ 50 by omega)
  clear hn0 hn50 HA1
  go_upto_region 3 with fail
  clear hnJ
  have HRM := Lib.hid (show (IntKind.i64.wrap (ai : Int)).tmod (n : Int) = ((ai % n : Nat) : Int) by
    have e : IntKind.i64.wrap (ai : Int) = (ai : Int) := by have := HAT.out; rw [IntKind.wrap_i64]; omega
    rw [e]
    rfl)
  obtain ⟨i, hi⟩ : ∃ i, i = ai % n := ⟨_, rfl⟩
  rw [← hi] at HRM
  have hil : i < n := by rw [hi]; exact Nat.mod_lt _ HN9.out.1
  clear hi
  have hiI : decide ((i : Int) < (n : Int)) = true := decide_eq_true (by omega)
  obtain ⟨x, hx⟩ := lt_some (l := L) (i := i) (by have := HN.out; omega)
  have HX := Lib.hid hx
  obtain ⟨bb, o, rfl, _⟩ := HL.out.at hx
  clear hx
  refine wp_region_held_drew (S := (fun W => Blk w.heap.size (sca U P R (some ⟨bb, o, none⟩) n c) 24 W ∧ Below w.heap.size w W)) (by kernel_rfl) ⟨RS1.out.drew, HB1.out.trans (Below.refl _ _).drew⟩ (fun hS => ?_)
  clear k3 RS1 HB1
  generalize W1.drew = V0 at *
  have HS0 := Lib.hid hS
  refine seqRead 0 (v := _) rfl (by kernel_rfl) (by kernel_rfl) (by kernel_rfl) (fun _ _ _ h => h) rfl (fun w hSw => by go_simp <;> with_reducible rfl) hS ?_
  try simp only [Act.put, List.setIfInBounds_toArray, List.set_cons_zero, List.set_cons_succ]
  refine seqRead 1 (v := _) rfl (by kernel_rfl) (by kernel_rfl) (by kernel_rfl) (fun _ _ _ h => h) rfl (fun w hSw => by have k3 := (cell_of_row w _ 3 _ _ _ hSw.1).trans rfl; go_simp <;> with_reducible rfl) hS ?_
  try simp only [Act.put, List.setIfInBounds_toArray, List.set_cons_zero, List.set_cons_succ]
  refine seqRead 2 (v := _) rfl (by kernel_rfl) (by kernel_rfl) (by kernel_rfl) (fun _ _ _ h => h) rfl (fun w hSw => by go_simp <;> with_reducible rfl) hS ?_
  try simp only [Act.put, List.setIfInBounds_toArray, List.set_cons_zero, List.set_cons_succ]
  refine seqRead 3 (v := _) rfl (by kernel_rfl) (by kernel_rfl) (by kernel_rfl) (fun _ _ _ h => h) rfl (fun w hSw => by go_simp <;> with_reducible rfl) hS ?_
  try simp only [Act.put, List.setIfInBounds_toArray, List.set_cons_zero, List.set_cons_succ]
  refine seqRead 4 (v := _) rfl (by kernel_rfl) (by kernel_rfl) (by kernel_rfl) (fun _ _ _ h => h) rfl (fun w hSw => by go_simp <;> with_reducible rfl) hS ?_
  try simp only [Act.put, List.setIfInBounds_toArray, List.set_cons_zero, List.set_cons_succ]
  refine seqRead 5 (v := _) rfl (by kernel_rfl) (by kernel_rfl) (by kernel_rfl) (fun _ _ _ h => h) rfl (fun w hSw => by have k3 := (cell_of_row w _ 3 _ _ _ hSw.1).trans rfl; go_simp <;> with_reducible rfl) hS ?_
  try simp only [Act.put, List.setIfInBounds_toArray, List.set_cons_zero, List.set_cons_succ]
  refine seqRead 6 (v := _) rfl (by kernel_rfl) (by kernel_rfl) (by kernel_rfl) (fun _ _ _ h => h) rfl (fun w hSw => by go_simp <;> with_reducible rfl) hS ?_
  try simp only [Act.put, List.setIfInBounds_toArray, List.set_cons_zero, List.set_cons_succ]
  refine seqRead 7 (v := _) rfl (by kernel_rfl) (by kernel_rfl) (by kernel_rfl) (fun _ _ _ h => h) rfl (fun w hSw => by go_simp <;> with_reducible rfl) hS ?_
  try simp only [Act.put, List.setIfInBounds_toArray, List.set_cons_zero, List.set_cons_succ]
  rw [HRM.out]
  refine seqRead 8 (v := _) rfl (by kernel_rfl) (by kernel_rfl) (by kernel_rfl) (fun _ _ _ h => h) rfl (fun w hSw => by go_simp <;> with_reducible rfl) hS ?_
  try simp only [Act.put, List.setIfInBounds_toArray, List.set_cons_zero, List.set_cons_succ]
  refine seqRead 9 (v := _) rfl (by kernel_rfl) (by kernel_rfl) (by kernel_rfl) (fun _ _ _ h => h) rfl (fun w hSw => execRow rfl bb (o + i * 4) rfl (lcl x) _ ((HL.out.below okN hSw.2).at' HX.out) Try.underlying36 rfl infoN) hS ?_
  try simp only [Act.put, List.setIfInBounds_toArray, List.set_cons_zero, List.set_cons_succ]
  refine seqCall 10 rfl (by kernel_rfl) rfl (fun K hK => ?_)
  go_simp
  refine hK.out _ _ ⟨hS.1.below (below1 _ _), hS.2.trans ((below1 _ _).mono hS.2.size)⟩ (fun hS => ?_)
  clear hK K
  try simp only [Act.put, List.setIfInBounds_toArray, List.set_cons_zero, List.set_cons_succ]
  refine seqCall 11 rfl (by kernel_rfl) rfl (fun K hK => ?_)
  refine wp_store_row 36 _ _ rfl V0.heap.size (lca x) rfl rfl 36 _ (heap_alloc_new _ _) infoN rfl (lca_one x) ?_
  rw [World.setRow_alloc_new]
  have HT := Lib.hid (show TtS w (sca U P R (some ⟨bb, o, none⟩) n c) x V0.heap.size (V0.alloc (.cells (lca x) 36)) from ⟨HS0.out.1.below (below1 _ _), Blk.new _ _ _, HS0.out.2.trans ((below1 _ _).mono HS0.out.2.size), HS0.out.1.lt⟩)
  refine hK.out _ _ ⟨HT.out.s, HT.out.kept⟩ (fun hS => ?_)
  clear hK K
  try simp only [Act.put]
  refine seqDone (by kernel_rfl) ?_
  clear hS HS0 hiI hil HRM
  obtain ⟨b7, hb7⟩ : ∃ b7, b7 = V0.heap.size := ⟨_, rfl⟩
  rw [← hb7] at HT ⊢
  clear hb7
  generalize V0.alloc (.cells (lca x) 36) = W2 at *
  obtain ⟨q, hq⟩ : ∃ q : Option Addr, q = some ⟨bb, o, none⟩ := ⟨_, rfl⟩
  rw [← hq] at HT HL ⊢
  clear hq
  go_upto_if 38 with fail
  go_cut [] (fun W => ∃ y : Ln, (y = x ∨ y = (x.2, x.1)) ∧ TtS w (sca U P R q n c) y b7 W)
  case first =>
    cases tu with
    | false =>
      go_wp2_with fail
      go_meet
      case rel => exact ⟨x, .inl rfl, HT.out⟩
    | true =>
      have RA := Lib.hid (rngA HT.out.b)
      have RB := Lib.hid (rngB HT.out.b)
      have RT := Lib.hid (show Blk b7 _ 36 (W2.setCells b7 0 (eca x.2).toList) from (HT.out.b.one (k := 0) (.int .i64 x.2.1)).one (k := 1) (.int .i64 x.2.2))
      go_wp2_with (first
        | (refine wpList_load_mid rfl 26 _ rfl b7 2 rfl (ecl x.2) _ RB.out Try.underlying26 rfl infoE ?_)
        | (refine wpList_load_mid rfl 26 _ rfl b7 0 rfl (ecl x.1) _ RA.out Try.underlying26 rfl infoE ?_)
        | (refine wpList_store_mid rfl 26 _ _ rfl b7 0 (eca x.2) rfl rfl (HT.out.b.there (by simp [lca, eca])) infoE (eca_one x.2) ?_)
        | (refine wpList_store_mid rfl 26 _ _ rfl b7 2 (eca x.1) rfl rfl (RT.out.there (by simp [lca, eca])) infoE (eca_one x.1) ?_))
      go_meet
      case rel => exact ⟨(x.2, x.1), .inr rfl, HT.out.swap⟩
  case rest =>
  obtain ⟨y, hy, ht⟩ := hcut
  have HFA := Lib.hid (fault_twice HF.out.symm (List.mem_of_getElem? HX.out) hy)
  have HFB := Lib.hid (fault_self HF.out.symm (L.drop 1) y.1)
  have HT1 := Lib.hid ht
  clear hy ht HX HT
  go_upto_region 6 with fail
  go_cut [8, 9] (fun s8 s9 W => ∃ b8 b9 : Nat, s8 = .pointer (some ⟨b8, 0, none⟩) ∧ s9 = .pointer (some ⟨b9, 0, none⟩) ∧ TuS w (sca U P R q n c) y b7 b8 (sca U P R q n c) b9 (sca U P R q n c) W)
  case first =>
    have HT2 := Lib.hid (HT1.out.below (Below.refl _ _).drew)
    refine wp_region_held_drew (S := (fun W => TtS w (sca U P R q n c) y b7 W)) (by kernel_rfl) HT2.out (fun hS => ?_)
    clear HT1 HT2
    generalize wc.drew = V0 at *
    refine seqRead 0 (v := _) rfl (by kernel_rfl) (by kernel_rfl) (by kernel_rfl) (fun _ _ _ h => h) rfl (fun w hSw => execRow0 rfl _ rfl hSw.s Try.underlying24 rfl infoS4) hS ?_
    try simp only [Act.put, List.setIfInBounds_toArray, List.set_cons_zero, List.set_cons_succ]
    refine seqRead 1 (v := _) rfl (by kernel_rfl) (by kernel_rfl) (by kernel_rfl) (fun _ _ _ h => h) rfl (fun w hSw => execRow0 rfl _ rfl hSw.s Try.underlying24 rfl infoS4) hS ?_
    try simp only [Act.put, List.setIfInBounds_toArray, List.set_cons_zero, List.set_cons_succ]
    refine seqActs2 2 3 rfl rfl (by kernel_rfl) rfl (fun K hK => ?_) rfl (fun K hK => ?_)
    · go_simp
      have X2 := Lib.hid (Blk.new V0 #[.int .i64 0, .int .i64 0, .int .i64 0, .slice none 0 0] 24)
      have G2 := Lib.hid (show w.heap.size < V0.heap.size ∧ b7 < V0.heap.size from ⟨hS.s.lt, hS.b.lt⟩)
      refine hK.out _ _ (hS.below (below1 _ _)) (fun hS => ?_)
      clear hK K
      generalize hv : V0.alloc (.cells #[.int .i64 0, .int .i64 0, .int .i64 0, .slice none 0 0] 24) = V1 at *
      clear hv
      try simp only [Act.put, List.setIfInBounds_toArray, List.set_cons_zero, List.set_cons_succ]
      refine seqCall 3 rfl (by kernel_rfl) rfl (fun K hK => ?_)
      go_simp
      have X3 := Lib.hid (Blk.new V1 #[.int .i64 0, .int .i64 0, .int .i64 0, .slice none 0 0] 24)
      have G3 := Lib.hid (show w.heap.size < V1.heap.size ∧ b7 < V1.heap.size from ⟨hS.s.lt, hS.b.lt⟩)
      have D := Lib.hid (show V0.heap.size ≠ V1.heap.size from Nat.ne_of_lt X2.out.lt)
      have X2 := Lib.hid (X2.out.old (.cells #[.int .i64 0, .int .i64 0, .int .i64 0, .slice none 0 0] 24))
      refine hK.out _ _ (hS.below (below1 _ _)) (fun hS => ?_)
      clear hK K
      generalize hv : V1.alloc (.cells #[.int .i64 0, .int .i64 0, .int .i64 0, .slice none 0 0] 24) = V2 at *
      clear hv
      try simp only [Act.put, List.setIfInBounds_toArray, List.set_cons_zero, List.set_cons_succ]
      refine seqCall 4 rfl (by kernel_rfl) rfl (fun K hK => ?_)
      refine wp_store_row 24 _ _ rfl V0.heap.size (sca U P R q n c) rfl rfl 24 _ X2.out infoS4 rfl (sca_one _ _ _ _ _ _) (hK.out _ _ (hS.row G2.out.1 (Nat.ne_of_lt G2.out.2) _) (fun hS => ?_))
      clear hK K
      have X2 := Lib.hid (X2.out.rset (sca U P R q n c))
      have X3 := Lib.hid (show Blk V1.heap.size _ 24 (V2.setRow V0.heap.size (sca U P R q n c)) from (setRow_other _ _ _ _ (by have := D.out; omega)).trans X3.out)
      generalize hv : V2.setRow V0.heap.size (sca U P R q n c) = V3 at *
      clear hv
      try simp only [Act.put]
      refine seqCall 5 rfl (by kernel_rfl) rfl (fun K hK => ?_)
      refine wp_store_row 24 _ _ rfl V1.heap.size (sca U P R q n c) rfl rfl 24 _ X3.out infoS4 rfl (sca_one _ _ _ _ _ _) (hK.out _ _ (hS.row G3.out.1 (Nat.ne_of_lt G3.out.2) _) (fun hS => ?_))
      clear hK K
      have X3 := Lib.hid (X3.out.rset (sca U P R q n c))
      have X2 := Lib.hid (show Blk V0.heap.size _ 24 (V3.setRow V1.heap.size (sca U P R q n c)) from (setRow_other _ _ _ _ (by have := D.out; omega)).trans X2.out)
      generalize hv : V3.setRow V1.heap.size (sca U P R q n c) = V4 at *
      clear hv
      try simp only [Act.put]
      refine seqDone (by kernel_rfl) ?_
      have HU := Lib.hid (show TuS w (sca U P R q n c) y b7 V0.heap.size (sca U P R q n c) V1.heap.size (sca U P R q n c) V4 from ⟨hS, X2.out, X3.out, G2.out.1, G3.out.1, by have := D.out; omega, Ne.symm (Nat.ne_of_lt G2.out.2), Ne.symm (Nat.ne_of_lt G3.out.2)⟩)
      clear hS X2 X3 G2 G3 D
      go_wp2_with fail
      go_meet
      case rel => exact ⟨_, _, rfl, rfl, HU.out⟩
    · go_simp
      have X3 := Lib.hid (Blk.new V0 #[.int .i64 0, .int .i64 0, .int .i64 0, .slice none 0 0] 24)
      have G3 := Lib.hid (show w.heap.size < V0.heap.size ∧ b7 < V0.heap.size from ⟨hS.s.lt, hS.b.lt⟩)
      refine hK.out _ _ (hS.below (below1 _ _)) (fun hS => ?_)
      clear hK K
      generalize hv : V0.alloc (.cells #[.int .i64 0, .int .i64 0, .int .i64 0, .slice none 0 0] 24) = V1 at *
      clear hv
      try simp only [Act.put, List.setIfInBounds_toArray, List.set_cons_zero, List.set_cons_succ]
      refine seqCall 2 rfl (by kernel_rfl) rfl (fun K hK => ?_)
      go_simp
      have X2 := Lib.hid (Blk.new V1 #[.int .i64 0, .int .i64 0, .int .i64 0, .slice none 0 0] 24)
      have G2 := Lib.hid (show w.heap.size < V1.heap.size ∧ b7 < V1.heap.size from ⟨hS.s.lt, hS.b.lt⟩)
      have D := Lib.hid (show V0.heap.size ≠ V1.heap.size from Nat.ne_of_lt X3.out.lt)
      have X3 := Lib.hid (X3.out.old (.cells #[.int .i64 0, .int .i64 0, .int .i64 0, .slice none 0 0] 24))
      refine hK.out _ _ (hS.below (below1 _ _)) (fun hS => ?_)
      clear hK K
      generalize hv : V1.alloc (.cells #[.int .i64 0, .int .i64 0, .int .i64 0, .slice none 0 0] 24) = V2 at *
      clear hv
      try simp only [Act.put, List.setIfInBounds_toArray, List.set_cons_zero, List.set_cons_succ]
      refine seqCall 4 rfl (by kernel_rfl) rfl (fun K hK => ?_)
      refine wp_store_row 24 _ _ rfl V1.heap.size (sca U P R q n c) rfl rfl 24 _ X2.out infoS4 rfl (sca_one _ _ _ _ _ _) (hK.out _ _ (hS.row G2.out.1 (Nat.ne_of_lt G2.out.2) _) (fun hS => ?_))
      clear hK K
      have X2 := Lib.hid (X2.out.rset (sca U P R q n c))
      have X3 := Lib.hid (show Blk V0.heap.size _ 24 (V2.setRow V1.heap.size (sca U P R q n c)) from (setRow_other _ _ _ _ (by have := D.out; omega)).trans X3.out)
      generalize hv : V2.setRow V1.heap.size (sca U P R q n c) = V3 at *
      clear hv
      try simp only [Act.put]
      refine seqCall 5 rfl (by kernel_rfl) rfl (fun K hK => ?_)
      refine wp_store_row 24 _ _ rfl V0.heap.size (sca U P R q n c) rfl rfl 24 _ X3.out infoS4 rfl (sca_one _ _ _ _ _ _) (hK.out _ _ (hS.row G3.out.1 (Nat.ne_of_lt G3.out.2) _) (fun hS => ?_))
      clear hK K
      have X3 := Lib.hid (X3.out.rset (sca U P R q n c))
      have X2 := Lib.hid (show Blk V1.heap.size _ 24 (V3.setRow V0.heap.size (sca U P R q n c)) from (setRow_other _ _ _ _ (by have := D.out; omega)).trans X2.out)
      generalize hv : V3.setRow V0.heap.size (sca U P R q n c) = V4 at *
      clear hv
      try simp only [Act.put]
      refine seqDone (by kernel_rfl) ?_
      have HU := Lib.hid (show TuS w (sca U P R q n c) y b7 V1.heap.size (sca U P R q n c) V0.heap.size (sca U P R q n c) V4 from ⟨hS, X2.out, X3.out, G2.out.1, G3.out.1, by have := D.out; omega, Ne.symm (Nat.ne_of_lt G2.out.2), Ne.symm (Nat.ne_of_lt G3.out.2)⟩)
      clear hS X2 X3 G2 G3 D
      go_wp2_with fail
      go_meet
      case rel => exact ⟨_, _, rfl, rfl, HU.out⟩
  case rest =>
  obtain ⟨b8, b9, rfl, rfl, hu⟩ := hcut
  have HU0 := Lib.hid hu
  clear hu HT1
  have HLL := Lib.hid (show (([] : List Ln).length + L.length) * KN.room ≤ 140737488355328 ∧ (L.length + [y].length) * KN.room ≤ 140737488355328 by
    have := HN.out
    have := HN9.out
    refine ⟨?_, ?_⟩
    · show (0 + L.length) * 32 ≤ _
      omega
    · show (L.length + 1) * 32 ≤ _
      omega)
  go_upto_region 7 with fail
  go_cut [] (fun W => ∃ (Bx : Nat) (qa : Option Addr) (ca : Nat), b9 < Bx ∧ TuS w (sca U P R q n c) y b7 b8 (sca U P R qa (n + 1) ca) b9 (sca U P R q n c) W ∧ KOwns KN Bx (.slice qa (n + 1) ca) (L ++ [y]) W)
  case first =>
    have HU1 := Lib.hid (HU0.out.below (Below.refl _ _).drew)
    refine wp_region_held_drew (S := (fun W => TtS w (sca U P R q n c) y b7 W)) (by kernel_rfl) HU1.out.t (fun hS => ?_)
    clear HU0
    generalize wc.drew = V0 at *
    have HLT := Lib.hid HU1.out.lts
    refine seqRead 1 (v := _) rfl (by kernel_rfl) (by kernel_rfl) (by kernel_rfl) (fun _ _ _ h => h) rfl (fun w hSw => by go_simp <;> with_reducible rfl) hS ?_
    try simp only [Act.put, List.setIfInBounds_toArray, List.set_cons_zero, List.set_cons_succ]
    refine seqRead 2 (v := _) rfl (by kernel_rfl) (by kernel_rfl) (by kernel_rfl) (fun _ _ _ h => h) rfl (fun w hSw => by have k3 := (cell_of_row w _ 3 _ _ _ hSw.s).trans rfl; go_simp <;> with_reducible rfl) hS ?_
    try simp only [Act.put, List.setIfInBounds_toArray, List.set_cons_zero, List.set_cons_succ]
    refine seqRead 4 (v := _) rfl (by kernel_rfl) (by kernel_rfl) (by kernel_rfl) (fun _ _ _ h => h) rfl (fun w hSw => execRow0 rfl _ rfl hSw.b Try.underlying36 rfl infoN) hS ?_
    try simp only [Act.put, List.setIfInBounds_toArray, List.set_cons_zero, List.set_cons_succ]
    refine seqActs2 0 5 rfl rfl (by kernel_rfl) rfl (fun K hK => ?_) rfl (fun K hK => ?_)
    · refine kbuildNoneWp KN okN rfl ?_
      have OA := Lib.hid (KOwns.built (K := KN) V0 V0.heap.size (Nat.le_refl _))
      have HU1 := Lib.hid (HU1.out.below (below1 V0 (.cells #[] KN.T)))
      have HLE := Lib.hid (show V0.heap.size ≤ (V0.alloc (.cells #[] KN.T)).heap.size from by have := (below1 V0 (.cells #[] KN.T)).size; omega)
      refine hK.out _ _ HU1.out.t (fun hS => ?_)
      clear hK K
      have NBL := Lib.hid (show V0.heap.size < (V0.alloc (.cells #[] KN.T)).heap.size from by simp)
      generalize hv : V0.alloc (.cells #[] KN.T) = V1 at *
      clear hv
      try simp only [Act.put, List.setIfInBounds_toArray, List.set_cons_zero, List.set_cons_succ]
      refine seqActs2 3 5 rfl rfl (by kernel_rfl) rfl (fun K hK => ?_) rfl (fun K hK => ?_)
      · refine kappendWpB KN okN _ _ rfl V0.heap.size (.slice (some ⟨V0.heap.size, 0, none⟩) 0 0) [] L rfl OA.out _ rfl (HL.out.below okN hS.kept) HLE.out HLL.out.1 (fun v1 V2 ho hg => ?_)
        have HU1 := Lib.hid (HU1.out.grown HLT.out (fun k e => OA.out.ge k e) hg)
        have HLE := Lib.hid (show V0.heap.size ≤ V2.heap.size from Nat.le_trans HLE.out hg.size)
        have OA := Lib.hid (show KOwns KN V0.heap.size v1 (L) V2 from ho)
        have VL := Lib.hid (ho.liesBelow)
        refine hK.out _ _ HU1.out.t (fun hS => ?_)
        clear hK K ho hg
        try simp only [Act.put, List.setIfInBounds_toArray, List.set_cons_zero, List.set_cons_succ]
        refine seqCall 5 rfl (by kernel_rfl) rfl (fun K hK => ?_)
        refine kbuildOneWp KN okN #[.int .i64 0, .int .i64 0, .int .i64 0, .int .i64 0] zeroKN _ rfl (lca y) rfl (by decide) (fillN y) ?_
        have O1 := Lib.hid (Blk.new V2 (lca y) KN.T)
        have OA := Lib.hid (OA.out.below (below1 V2 (.cells (lca y) KN.T)))
        have HU1 := Lib.hid (HU1.out.below (below1 V2 (.cells (lca y) KN.T)))
        have HLE := Lib.hid (show V0.heap.size ≤ (V2.alloc (.cells (lca y) KN.T)).heap.size from by have := (below1 V2 (.cells (lca y) KN.T)).size; have := HLE.out; omega)
        have O1L := Lib.hid (show V2.heap.size < (V2.alloc (.cells (lca y) KN.T)).heap.size from by simp)
        refine hK.out _ _ HU1.out.t (fun hS => ?_)
        clear hK K
        generalize hv : V2.alloc (.cells (lca y) KN.T) = V3 at *
        clear hv
        try simp only [Act.put, List.setIfInBounds_toArray, List.set_cons_zero, List.set_cons_succ]
        refine seqCall 6 rfl (by kernel_rfl) rfl (fun K hK => ?_)
        refine kappendWpB KN okN _ _ rfl V0.heap.size v1 L [y] rfl OA.out _ rfl (Blk.klies (K := KN) (l := [y]) O1.out okN rfl) HLE.out HLL.out.2 (fun v2 V4 ho hg => ?_)
        have HU1 := Lib.hid (HU1.out.grown HLT.out (fun k e => OA.out.ge k e) hg)
        have HLE := Lib.hid (show V0.heap.size ≤ V4.heap.size from Nat.le_trans HLE.out hg.size)
        have OA := Lib.hid ho
        obtain ⟨qz, cz, rfl⟩ := ho.form
        refine hK.out _ _ HU1.out.t (fun hS => ?_)
        clear hK K ho hg O1
        try simp only [Act.put, List.setIfInBounds_toArray, List.set_cons_zero, List.set_cons_succ]
        refine seqRead 7 (v := _) rfl (by kernel_rfl) (by kernel_rfl) (by kernel_rfl) (fun _ _ _ h => h) rfl (fun w hSw => by go_simp <;> with_reducible rfl) hS ?_
        try simp only [Act.put, List.setIfInBounds_toArray, List.set_cons_zero, List.set_cons_succ]
        refine seqCall 8 rfl (by kernel_rfl) rfl (fun K hK => ?_)
        rw [show (L ++ [y]).length = n + 1 by rw [List.length_append, ← HN.out]; rfl] at OA ⊢
        refine storeCellWp 22 _ _ rfl b8 3 (.slice qz (n + 1) cz) rfl rfl rfl (HU1.out.p.there (by simp)) infoSl ?_
        have HU1 := Lib.hid (HU1.out.set8 (.slice qz (n + 1) cz))
        have OA := Lib.hid (OA.out.setOther (k := 3) HLT.out.2.2.1 (.slice qz (n + 1) cz))
        refine hK.out _ _ HU1.out.t (fun hS => ?_)
        clear hK K
        generalize hv : V4.setCell ⟨b8, 3, none⟩ (.slice qz (n + 1) cz) = V5 at *
        clear hv
        try simp only [Act.put]
        refine seqDone (by kernel_rfl) ?_
        clear hS
        go_wp2_with fail
        go_meet
        case rel => exact ⟨V0.heap.size, qz, cz, HLT.out.2.2.2, by simpa using HU1.out, OA.out⟩
      · refine kbuildOneWp KN okN #[.int .i64 0, .int .i64 0, .int .i64 0, .int .i64 0] zeroKN _ rfl (lca y) rfl (by decide) (fillN y) ?_
        have O1 := Lib.hid (Blk.new V1 (lca y) KN.T)
        have OA := Lib.hid (OA.out.below (below1 V1 (.cells (lca y) KN.T)))
        have D := Lib.hid (show V1.heap.size ≠ V0.heap.size from by have := NBL.out; omega)
        have HU1 := Lib.hid (HU1.out.below (below1 V1 (.cells (lca y) KN.T)))
        have HLE := Lib.hid (show V0.heap.size ≤ (V1.alloc (.cells (lca y) KN.T)).heap.size from by have := (below1 V1 (.cells (lca y) KN.T)).size; have := HLE.out; omega)
        have O1L := Lib.hid (show V1.heap.size < (V1.alloc (.cells (lca y) KN.T)).heap.size from by simp)
        refine hK.out _ _ HU1.out.t (fun hS => ?_)
        clear hK K
        generalize hv : V1.alloc (.cells (lca y) KN.T) = V2 at *
        clear hv
        try simp only [Act.put, List.setIfInBounds_toArray, List.set_cons_zero, List.set_cons_succ]
        refine seqCall 3 rfl (by kernel_rfl) rfl (fun K hK => ?_)
        refine kappendWpB KN okN _ _ rfl V0.heap.size (.slice (some ⟨V0.heap.size, 0, none⟩) 0 0) [] L rfl OA.out _ rfl (HL.out.below okN hS.kept) HLE.out HLL.out.1 (fun v1 V3 ho hg => ?_)
        have HU1 := Lib.hid (HU1.out.grown HLT.out (fun k e => OA.out.ge k e) hg)
        have HLE := Lib.hid (show V0.heap.size ≤ V3.heap.size from Nat.le_trans HLE.out hg.size)
        have O1 := Lib.hid (show Blk V1.heap.size _ KN.T V3 from (hg.block _ O1.out.lt (fun e => by injection e with e; have := D.out; have e : V1.heap.size = V0.heap.size := e; omega)).trans O1.out)
        have O1L := Lib.hid (show V1.heap.size < V3.heap.size from O1.out.lt)
        have OA := Lib.hid (show KOwns KN V0.heap.size v1 (L) V3 from ho)
        have VL := Lib.hid (ho.liesBelow)
        refine hK.out _ _ HU1.out.t (fun hS => ?_)
        clear hK K ho hg
        try simp only [Act.put, List.setIfInBounds_toArray, List.set_cons_zero, List.set_cons_succ]
        refine seqCall 6 rfl (by kernel_rfl) rfl (fun K hK => ?_)
        refine kappendWpB KN okN _ _ rfl V0.heap.size v1 L [y] rfl OA.out _ rfl (Blk.klies (K := KN) (l := [y]) O1.out okN rfl) HLE.out HLL.out.2 (fun v2 V4 ho hg => ?_)
        have HU1 := Lib.hid (HU1.out.grown HLT.out (fun k e => OA.out.ge k e) hg)
        have HLE := Lib.hid (show V0.heap.size ≤ V4.heap.size from Nat.le_trans HLE.out hg.size)
        have OA := Lib.hid ho
        obtain ⟨qz, cz, rfl⟩ := ho.form
        refine hK.out _ _ HU1.out.t (fun hS => ?_)
        clear hK K ho hg O1
        try simp only [Act.put, List.setIfInBounds_toArray, List.set_cons_zero, List.set_cons_succ]
        refine seqRead 7 (v := _) rfl (by kernel_rfl) (by kernel_rfl) (by kernel_rfl) (fun _ _ _ h => h) rfl (fun w hSw => by go_simp <;> with_reducible rfl) hS ?_
        try simp only [Act.put, List.setIfInBounds_toArray, List.set_cons_zero, List.set_cons_succ]
        refine seqCall 8 rfl (by kernel_rfl) rfl (fun K hK => ?_)
        rw [show (L ++ [y]).length = n + 1 by rw [List.length_append, ← HN.out]; rfl] at OA ⊢
        refine storeCellWp 22 _ _ rfl b8 3 (.slice qz (n + 1) cz) rfl rfl rfl (HU1.out.p.there (by simp)) infoSl ?_
        have HU1 := Lib.hid (HU1.out.set8 (.slice qz (n + 1) cz))
        have OA := Lib.hid (OA.out.setOther (k := 3) HLT.out.2.2.1 (.slice qz (n + 1) cz))
        refine hK.out _ _ HU1.out.t (fun hS => ?_)
        clear hK K
        generalize hv : V4.setCell ⟨b8, 3, none⟩ (.slice qz (n + 1) cz) = V5 at *
        clear hv
        try simp only [Act.put]
        refine seqDone (by kernel_rfl) ?_
        clear hS
        go_wp2_with fail
        go_meet
        case rel => exact ⟨V0.heap.size, qz, cz, HLT.out.2.2.2, by simpa using HU1.out, OA.out⟩
    · refine kbuildOneWp KN okN #[.int .i64 0, .int .i64 0, .int .i64 0, .int .i64 0] zeroKN _ rfl (lca y) rfl (by decide) (fillN y) ?_
      have O1 := Lib.hid (Blk.new V0 (lca y) KN.T)
      have HU1 := Lib.hid (HU1.out.below (below1 V0 (.cells (lca y) KN.T)))
      have HLE := Lib.hid (show V0.heap.size ≤ (V0.alloc (.cells (lca y) KN.T)).heap.size from by have := (below1 V0 (.cells (lca y) KN.T)).size; omega)
      have O1L := Lib.hid (show V0.heap.size < (V0.alloc (.cells (lca y) KN.T)).heap.size from by simp)
      refine hK.out _ _ HU1.out.t (fun hS => ?_)
      clear hK K
      generalize hv : V0.alloc (.cells (lca y) KN.T) = V1 at *
      clear hv
      try simp only [Act.put, List.setIfInBounds_toArray, List.set_cons_zero, List.set_cons_succ]
      refine seqCall 0 rfl (by kernel_rfl) rfl (fun K hK => ?_)
      refine kbuildNoneWp KN okN rfl ?_
      have OA := Lib.hid (KOwns.built (K := KN) V1 V0.heap.size (by have := HLE.out; omega))
      have HU1 := Lib.hid (HU1.out.below (below1 V1 (.cells #[] KN.T)))
      have O1 := Lib.hid (O1.out.below (below1 V1 (.cells #[] KN.T)))
      have D := Lib.hid (show V0.heap.size ≠ V1.heap.size from by have := O1L.out; omega)
      have HLE := Lib.hid (show V0.heap.size ≤ (V1.alloc (.cells #[] KN.T)).heap.size from by have := (below1 V1 (.cells #[] KN.T)).size; have := HLE.out; omega)
      refine hK.out _ _ HU1.out.t (fun hS => ?_)
      clear hK K
      have NBL := Lib.hid (show V1.heap.size < (V1.alloc (.cells #[] KN.T)).heap.size from by simp)
      generalize hv : V1.alloc (.cells #[] KN.T) = V2 at *
      clear hv
      try simp only [Act.put, List.setIfInBounds_toArray, List.set_cons_zero, List.set_cons_succ]
      refine seqCall 3 rfl (by kernel_rfl) rfl (fun K hK => ?_)
      refine kappendWpB KN okN _ _ rfl V0.heap.size (.slice (some ⟨V1.heap.size, 0, none⟩) 0 0) [] L rfl OA.out _ rfl (HL.out.below okN hS.kept) HLE.out HLL.out.1 (fun v1 V3 ho hg => ?_)
      have HU1 := Lib.hid (HU1.out.grown HLT.out (fun k e => OA.out.ge k e) hg)
      have HLE := Lib.hid (show V0.heap.size ≤ V3.heap.size from Nat.le_trans HLE.out hg.size)
      have O1 := Lib.hid (show Blk V0.heap.size _ KN.T V3 from (hg.block _ O1.out.lt (fun e => by injection e with e; have := D.out; have e : V0.heap.size = V1.heap.size := e; omega)).trans O1.out)
      have O1L := Lib.hid (show V0.heap.size < V3.heap.size from O1.out.lt)
      have OA := Lib.hid (show KOwns KN V0.heap.size v1 (L) V3 from ho)
      have VL := Lib.hid (ho.liesBelow)
      refine hK.out _ _ HU1.out.t (fun hS => ?_)
      clear hK K ho hg
      try simp only [Act.put, List.setIfInBounds_toArray, List.set_cons_zero, List.set_cons_succ]
      refine seqCall 6 rfl (by kernel_rfl) rfl (fun K hK => ?_)
      refine kappendWpB KN okN _ _ rfl V0.heap.size v1 L [y] rfl OA.out _ rfl (Blk.klies (K := KN) (l := [y]) O1.out okN rfl) HLE.out HLL.out.2 (fun v2 V4 ho hg => ?_)
      have HU1 := Lib.hid (HU1.out.grown HLT.out (fun k e => OA.out.ge k e) hg)
      have HLE := Lib.hid (show V0.heap.size ≤ V4.heap.size from Nat.le_trans HLE.out hg.size)
      have OA := Lib.hid ho
      obtain ⟨qz, cz, rfl⟩ := ho.form
      refine hK.out _ _ HU1.out.t (fun hS => ?_)
      clear hK K ho hg O1
      try simp only [Act.put, List.setIfInBounds_toArray, List.set_cons_zero, List.set_cons_succ]
      refine seqRead 7 (v := _) rfl (by kernel_rfl) (by kernel_rfl) (by kernel_rfl) (fun _ _ _ h => h) rfl (fun w hSw => by go_simp <;> with_reducible rfl) hS ?_
      try simp only [Act.put, List.setIfInBounds_toArray, List.set_cons_zero, List.set_cons_succ]
      refine seqCall 8 rfl (by kernel_rfl) rfl (fun K hK => ?_)
      rw [show (L ++ [y]).length = n + 1 by rw [List.length_append, ← HN.out]; rfl] at OA ⊢
      refine storeCellWp 22 _ _ rfl b8 3 (.slice qz (n + 1) cz) rfl rfl rfl (HU1.out.p.there (by simp)) infoSl ?_
      have HU1 := Lib.hid (HU1.out.set8 (.slice qz (n + 1) cz))
      have OA := Lib.hid (OA.out.setOther (k := 3) HLT.out.2.2.1 (.slice qz (n + 1) cz))
      refine hK.out _ _ HU1.out.t (fun hS => ?_)
      clear hK K
      generalize hv : V4.setCell ⟨b8, 3, none⟩ (.slice qz (n + 1) cz) = V5 at *
      clear hv
      try simp only [Act.put]
      refine seqDone (by kernel_rfl) ?_
      clear hS
      go_wp2_with fail
      go_meet
      case rel => exact ⟨V0.heap.size, qz, cz, HLT.out.2.2.2, by simpa using HU1.out, OA.out⟩
  case rest =>
  obtain ⟨Bx, qa, ca, hbx, hu, hv⟩ := hcut
  have HU0 := Lib.hid hu
  have HV0 := Lib.hid hv
  have HBx := Lib.hid hbx
  clear hu hv hbx HLL
  have HLF := Lib.hid (fun (W : World) (h : KLies KN (.slice q n c) L W) => show KLies KN (fromV 4 q n c 1) (L.drop 1) W by
    have h1 := HN.out
    have h2 := HN9.out
    rw [h1] at h ⊢
    exact h.from (by omega))
  have HLL := Lib.hid (show (([] : List Ln).length + (L.drop 1).length) * KN.room ≤ 140737488355328 ∧ ((L.drop 1).length + [(y.1, y.1)].length) * KN.room ≤ 140737488355328 by
    have := HN.out
    have := HN9.out
    rw [List.length_drop]
    refine ⟨?_, ?_⟩
    · show (0 + (L.length - 1)) * 32 ≤ _
      omega
    · show (L.length - 1 + 1) * 32 ≤ _
      omega)
  go_upto_region 8 with fail
  go_cut [] (fun W => ∃ (qb : Option Addr) (cb : Nat), TuS w (sca U P R q n c) y b7 b8 (sca U P R qa (n + 1) ca) b9 (sca U P R qb n cb) W ∧ KLies KN (.slice qa (n + 1) ca) (L ++ [y]) W ∧ KLies KN (.slice qb n cb) (L.drop 1 ++ [(y.1, y.1)]) W)
  case first =>
    have HU1 := Lib.hid (HU0.out.below (Below.refl _ _).drew)
    have HV := Lib.hid (HV0.out.below (Below.refl _ _).drew)
    refine wp_region_held_drew (S := (fun W => TtS w (sca U P R q n c) y b7 W)) (by kernel_rfl) HU1.out.t (fun hS => ?_)
    clear HU0 HV0
    generalize wc.drew = V0 at *
    have HLT := Lib.hid HU1.out.lts
    have HVL := Lib.hid HV.out.liesBelow
    have h1n : 1 ≤ n := HN9.out.1
    refine seqRead 1 (v := _) rfl (by kernel_rfl) (by kernel_rfl) (by kernel_rfl) (fun _ _ _ h => h) rfl (fun w hSw => by go_simp <;> with_reducible rfl) hS ?_
    try simp only [Act.put, List.setIfInBounds_toArray, List.set_cons_zero, List.set_cons_succ]
    refine seqRead 2 (v := _) rfl (by kernel_rfl) (by kernel_rfl) (by kernel_rfl) (fun _ _ _ h => h) rfl (fun w hSw => by have k3 := (cell_of_row w _ 3 _ _ _ hSw.s).trans rfl; go_simp <;> with_reducible rfl) hS ?_
    try simp only [Act.put, List.setIfInBounds_toArray, List.set_cons_zero, List.set_cons_succ]
    refine seqRead 3 (v := _) rfl (by kernel_rfl) (by kernel_rfl) (by kernel_rfl) (fun _ _ _ h => h) rfl (fun w hSw => execFromN rfl q n c 1 rfl rfl h1n) hS ?_
    try simp only [Act.put, List.setIfInBounds_toArray, List.set_cons_zero, List.set_cons_succ]
    refine seqRead 5 (v := _) rfl (by kernel_rfl) (by kernel_rfl) (by kernel_rfl) (fun _ _ _ h => h) rfl (fun w hSw => by go_simp <;> with_reducible rfl) hS ?_
    try simp only [Act.put, List.setIfInBounds_toArray, List.set_cons_zero, List.set_cons_succ]
    refine seqRead 6 (v := _) rfl (by kernel_rfl) (by kernel_rfl) (by kernel_rfl) (fun _ _ _ h => h) rfl (fun w hSw => execRow rfl b7 0 rfl (ecl y.1) _ (rngA hSw.b) Try.underlying26 rfl infoE) hS ?_
    try simp only [Act.put, List.setIfInBounds_toArray, List.set_cons_zero, List.set_cons_succ]
    refine seqRead 7 (v := _) rfl (by kernel_rfl) (by kernel_rfl) (by kernel_rfl) (fun _ _ _ h => h) rfl (fun w hSw => by go_simp <;> with_reducible rfl) hS ?_
    try simp only [Act.put, List.setIfInBounds_toArray, List.set_cons_zero, List.set_cons_succ]
    refine seqRead 8 (v := _) rfl (by kernel_rfl) (by kernel_rfl) (by kernel_rfl) (fun _ _ _ h => h) rfl (fun w hSw => execRow rfl b7 0 rfl (ecl y.1) _ (rngA hSw.b) Try.underlying26 rfl infoE) hS ?_
    try simp only [Act.put, List.setIfInBounds_toArray, List.set_cons_zero, List.set_cons_succ]
    refine seqRead 9 (v := _) rfl (by kernel_rfl) (by kernel_rfl) (by kernel_rfl) (fun _ _ _ h => h) rfl (fun w hSw => execBuildN rfl y.1 y.1 rfl rfl) hS ?_
    try simp only [Act.put, List.setIfInBounds_toArray, List.set_cons_zero, List.set_cons_succ]
    refine seqActs2 0 10 rfl rfl (by kernel_rfl) rfl (fun K hK => ?_) rfl (fun K hK => ?_)
    · refine kbuildNoneWp KN okN rfl ?_
      have OA := Lib.hid (KOwns.built (K := KN) V0 V0.heap.size (Nat.le_refl _))
      have HU1 := Lib.hid (HU1.out.below (below1 V0 (.cells #[] KN.T)))
      have HV := Lib.hid (HV.out.below (below1 V0 (.cells #[] KN.T)))
      have HLE := Lib.hid (show V0.heap.size ≤ (V0.alloc (.cells #[] KN.T)).heap.size from by have := (below1 V0 (.cells #[] KN.T)).size; omega)
      refine hK.out _ _ HU1.out.t (fun hS => ?_)
      clear hK K
      have NBL := Lib.hid (show V0.heap.size < (V0.alloc (.cells #[] KN.T)).heap.size from by simp)
      generalize hv : V0.alloc (.cells #[] KN.T) = V1 at *
      clear hv
      try simp only [Act.put, List.setIfInBounds_toArray, List.set_cons_zero, List.set_cons_succ]
      refine seqActs2 4 10 rfl rfl (by kernel_rfl) rfl (fun K hK => ?_) rfl (fun K hK => ?_)
      · refine kappendWpB KN okN _ _ rfl V0.heap.size (.slice (some ⟨V0.heap.size, 0, none⟩) 0 0) [] (L.drop 1) rfl OA.out _ rfl (HLF.out _ (HL.out.below okN hS.kept)) HLE.out HLL.out.1 (fun v1 V2 ho hg => ?_)
        have HU1 := Lib.hid (HU1.out.grown HLT.out (fun k e => OA.out.ge k e) hg)
        have HV := Lib.hid (HV.out.beside HVL.out OA.out hg)
        have HLE := Lib.hid (show V0.heap.size ≤ V2.heap.size from Nat.le_trans HLE.out hg.size)
        have OA := Lib.hid (show KOwns KN V0.heap.size v1 ((L.drop 1)) V2 from ho)
        have VL := Lib.hid (ho.liesBelow)
        refine hK.out _ _ HU1.out.t (fun hS => ?_)
        clear hK K ho hg
        try simp only [Act.put, List.setIfInBounds_toArray, List.set_cons_zero, List.set_cons_succ]
        refine seqCall 10 rfl (by kernel_rfl) rfl (fun K hK => ?_)
        refine kbuildOneWp KN okN #[.int .i64 0, .int .i64 0, .int .i64 0, .int .i64 0] zeroKN _ rfl (lca (y.1, y.1)) rfl (by decide) (fillN (y.1, y.1)) ?_
        have O1 := Lib.hid (Blk.new V2 (lca (y.1, y.1)) KN.T)
        have OA := Lib.hid (OA.out.below (below1 V2 (.cells (lca (y.1, y.1)) KN.T)))
        have HU1 := Lib.hid (HU1.out.below (below1 V2 (.cells (lca (y.1, y.1)) KN.T)))
        have HV := Lib.hid (HV.out.below (below1 V2 (.cells (lca (y.1, y.1)) KN.T)))
        have HLE := Lib.hid (show V0.heap.size ≤ (V2.alloc (.cells (lca (y.1, y.1)) KN.T)).heap.size from by have := (below1 V2 (.cells (lca (y.1, y.1)) KN.T)).size; have := HLE.out; omega)
        have O1L := Lib.hid (show V2.heap.size < (V2.alloc (.cells (lca (y.1, y.1)) KN.T)).heap.size from by simp)
        refine hK.out _ _ HU1.out.t (fun hS => ?_)
        clear hK K
        generalize hv : V2.alloc (.cells (lca (y.1, y.1)) KN.T) = V3 at *
        clear hv
        try simp only [Act.put, List.setIfInBounds_toArray, List.set_cons_zero, List.set_cons_succ]
        refine seqCall 11 rfl (by kernel_rfl) rfl (fun K hK => ?_)
        refine kappendWpB KN okN _ _ rfl V0.heap.size v1 (L.drop 1) [(y.1, y.1)] rfl OA.out _ rfl (Blk.klies (K := KN) (l := [(y.1, y.1)]) O1.out okN rfl) HLE.out HLL.out.2 (fun v2 V4 ho hg => ?_)
        have HU1 := Lib.hid (HU1.out.grown HLT.out (fun k e => OA.out.ge k e) hg)
        have HV := Lib.hid (HV.out.beside HVL.out OA.out hg)
        have HLE := Lib.hid (show V0.heap.size ≤ V4.heap.size from Nat.le_trans HLE.out hg.size)
        have OA := Lib.hid ho
        obtain ⟨qz, cz, rfl⟩ := ho.form
        refine hK.out _ _ HU1.out.t (fun hS => ?_)
        clear hK K ho hg O1
        try simp only [Act.put, List.setIfInBounds_toArray, List.set_cons_zero, List.set_cons_succ]
        refine seqRead 12 (v := _) rfl (by kernel_rfl) (by kernel_rfl) (by kernel_rfl) (fun _ _ _ h => h) rfl (fun w hSw => by go_simp <;> with_reducible rfl) hS ?_
        try simp only [Act.put, List.setIfInBounds_toArray, List.set_cons_zero, List.set_cons_succ]
        refine seqCall 13 rfl (by kernel_rfl) rfl (fun K hK => ?_)
        rw [show (L.drop 1 ++ [(y.1, y.1)]).length = n by rw [List.length_append, List.length_drop, ← HN.out]; show n - 1 + 1 = n; omega] at OA ⊢
        refine storeCellWp 22 _ _ rfl b9 3 (.slice qz (n) cz) rfl rfl rfl (HU1.out.q.there (by simp)) infoSl ?_
        have HU1 := Lib.hid (HU1.out.set9 (.slice qz (n) cz))
        have OA := Lib.hid (OA.out.setOther (k := 3) HLT.out.2.2.2 (.slice qz (n) cz))
        have HV := Lib.hid (HV.out.setOther (k := 3) HBx.out (.slice qz (n) cz))
        refine hK.out _ _ HU1.out.t (fun hS => ?_)
        clear hK K
        generalize hv : V4.setCell ⟨b9, 3, none⟩ (.slice qz (n) cz) = V5 at *
        clear hv
        try simp only [Act.put]
        refine seqDone (by kernel_rfl) ?_
        clear hS
        go_wp2_with fail
        go_meet
        case rel => exact ⟨qz, cz, by simpa using HU1.out, HV.out.lies okN, OA.out.lies okN⟩
      · refine kbuildOneWp KN okN #[.int .i64 0, .int .i64 0, .int .i64 0, .int .i64 0] zeroKN _ rfl (lca (y.1, y.1)) rfl (by decide) (fillN (y.1, y.1)) ?_
        have O1 := Lib.hid (Blk.new V1 (lca (y.1, y.1)) KN.T)
        have OA := Lib.hid (OA.out.below (below1 V1 (.cells (lca (y.1, y.1)) KN.T)))
        have D := Lib.hid (show V1.heap.size ≠ V0.heap.size from by have := NBL.out; omega)
        have HU1 := Lib.hid (HU1.out.below (below1 V1 (.cells (lca (y.1, y.1)) KN.T)))
        have HV := Lib.hid (HV.out.below (below1 V1 (.cells (lca (y.1, y.1)) KN.T)))
        have HLE := Lib.hid (show V0.heap.size ≤ (V1.alloc (.cells (lca (y.1, y.1)) KN.T)).heap.size from by have := (below1 V1 (.cells (lca (y.1, y.1)) KN.T)).size; have := HLE.out; omega)
        have O1L := Lib.hid (show V1.heap.size < (V1.alloc (.cells (lca (y.1, y.1)) KN.T)).heap.size from by simp)
        refine hK.out _ _ HU1.out.t (fun hS => ?_)
        clear hK K
        generalize hv : V1.alloc (.cells (lca (y.1, y.1)) KN.T) = V2 at *
        clear hv
        try simp only [Act.put, List.setIfInBounds_toArray, List.set_cons_zero, List.set_cons_succ]
        refine seqCall 4 rfl (by kernel_rfl) rfl (fun K hK => ?_)
        refine kappendWpB KN okN _ _ rfl V0.heap.size (.slice (some ⟨V0.heap.size, 0, none⟩) 0 0) [] (L.drop 1) rfl OA.out _ rfl (HLF.out _ (HL.out.below okN hS.kept)) HLE.out HLL.out.1 (fun v1 V3 ho hg => ?_)
        have HU1 := Lib.hid (HU1.out.grown HLT.out (fun k e => OA.out.ge k e) hg)
        have HV := Lib.hid (HV.out.beside HVL.out OA.out hg)
        have HLE := Lib.hid (show V0.heap.size ≤ V3.heap.size from Nat.le_trans HLE.out hg.size)
        have O1 := Lib.hid (show Blk V1.heap.size _ KN.T V3 from (hg.block _ O1.out.lt (fun e => by injection e with e; have := D.out; have e : V1.heap.size = V0.heap.size := e; omega)).trans O1.out)
        have O1L := Lib.hid (show V1.heap.size < V3.heap.size from O1.out.lt)
        have OA := Lib.hid (show KOwns KN V0.heap.size v1 ((L.drop 1)) V3 from ho)
        have VL := Lib.hid (ho.liesBelow)
        refine hK.out _ _ HU1.out.t (fun hS => ?_)
        clear hK K ho hg
        try simp only [Act.put, List.setIfInBounds_toArray, List.set_cons_zero, List.set_cons_succ]
        refine seqCall 11 rfl (by kernel_rfl) rfl (fun K hK => ?_)
        refine kappendWpB KN okN _ _ rfl V0.heap.size v1 (L.drop 1) [(y.1, y.1)] rfl OA.out _ rfl (Blk.klies (K := KN) (l := [(y.1, y.1)]) O1.out okN rfl) HLE.out HLL.out.2 (fun v2 V4 ho hg => ?_)
        have HU1 := Lib.hid (HU1.out.grown HLT.out (fun k e => OA.out.ge k e) hg)
        have HV := Lib.hid (HV.out.beside HVL.out OA.out hg)
        have HLE := Lib.hid (show V0.heap.size ≤ V4.heap.size from Nat.le_trans HLE.out hg.size)
        have OA := Lib.hid ho
        obtain ⟨qz, cz, rfl⟩ := ho.form
        refine hK.out _ _ HU1.out.t (fun hS => ?_)
        clear hK K ho hg O1
        try simp only [Act.put, List.setIfInBounds_toArray, List.set_cons_zero, List.set_cons_succ]
        refine seqRead 12 (v := _) rfl (by kernel_rfl) (by kernel_rfl) (by kernel_rfl) (fun _ _ _ h => h) rfl (fun w hSw => by go_simp <;> with_reducible rfl) hS ?_
        try simp only [Act.put, List.setIfInBounds_toArray, List.set_cons_zero, List.set_cons_succ]
        refine seqCall 13 rfl (by kernel_rfl) rfl (fun K hK => ?_)
        rw [show (L.drop 1 ++ [(y.1, y.1)]).length = n by rw [List.length_append, List.length_drop, ← HN.out]; show n - 1 + 1 = n; omega] at OA ⊢
        refine storeCellWp 22 _ _ rfl b9 3 (.slice qz (n) cz) rfl rfl rfl (HU1.out.q.there (by simp)) infoSl ?_
        have HU1 := Lib.hid (HU1.out.set9 (.slice qz (n) cz))
        have OA := Lib.hid (OA.out.setOther (k := 3) HLT.out.2.2.2 (.slice qz (n) cz))
        have HV := Lib.hid (HV.out.setOther (k := 3) HBx.out (.slice qz (n) cz))
        refine hK.out _ _ HU1.out.t (fun hS => ?_)
        clear hK K
        generalize hv : V4.setCell ⟨b9, 3, none⟩ (.slice qz (n) cz) = V5 at *
        clear hv
        try simp only [Act.put]
        refine seqDone (by kernel_rfl) ?_
        clear hS
        go_wp2_with fail
        go_meet
        case rel => exact ⟨qz, cz, by simpa using HU1.out, HV.out.lies okN, OA.out.lies okN⟩
    · refine kbuildOneWp KN okN #[.int .i64 0, .int .i64 0, .int .i64 0, .int .i64 0] zeroKN _ rfl (lca (y.1, y.1)) rfl (by decide) (fillN (y.1, y.1)) ?_
      have O1 := Lib.hid (Blk.new V0 (lca (y.1, y.1)) KN.T)
      have HU1 := Lib.hid (HU1.out.below (below1 V0 (.cells (lca (y.1, y.1)) KN.T)))
      have HV := Lib.hid (HV.out.below (below1 V0 (.cells (lca (y.1, y.1)) KN.T)))
      have HLE := Lib.hid (show V0.heap.size ≤ (V0.alloc (.cells (lca (y.1, y.1)) KN.T)).heap.size from by have := (below1 V0 (.cells (lca (y.1, y.1)) KN.T)).size; omega)
      have O1L := Lib.hid (show V0.heap.size < (V0.alloc (.cells (lca (y.1, y.1)) KN.T)).heap.size from by simp)
      refine hK.out _ _ HU1.out.t (fun hS => ?_)
      clear hK K
      generalize hv : V0.alloc (.cells (lca (y.1, y.1)) KN.T) = V1 at *
      clear hv
      try simp only [Act.put, List.setIfInBounds_toArray, List.set_cons_zero, List.set_cons_succ]
      refine seqCall 0 rfl (by kernel_rfl) rfl (fun K hK => ?_)
      refine kbuildNoneWp KN okN rfl ?_
      have OA := Lib.hid (KOwns.built (K := KN) V1 V0.heap.size (by have := HLE.out; omega))
      have HU1 := Lib.hid (HU1.out.below (below1 V1 (.cells #[] KN.T)))
      have HV := Lib.hid (HV.out.below (below1 V1 (.cells #[] KN.T)))
      have O1 := Lib.hid (O1.out.below (below1 V1 (.cells #[] KN.T)))
      have D := Lib.hid (show V0.heap.size ≠ V1.heap.size from by have := O1L.out; omega)
      have HLE := Lib.hid (show V0.heap.size ≤ (V1.alloc (.cells #[] KN.T)).heap.size from by have := (below1 V1 (.cells #[] KN.T)).size; have := HLE.out; omega)
      refine hK.out _ _ HU1.out.t (fun hS => ?_)
      clear hK K
      have NBL := Lib.hid (show V1.heap.size < (V1.alloc (.cells #[] KN.T)).heap.size from by simp)
      generalize hv : V1.alloc (.cells #[] KN.T) = V2 at *
      clear hv
      try simp only [Act.put, List.setIfInBounds_toArray, List.set_cons_zero, List.set_cons_succ]
      refine seqCall 4 rfl (by kernel_rfl) rfl (fun K hK => ?_)
      refine kappendWpB KN okN _ _ rfl V0.heap.size (.slice (some ⟨V1.heap.size, 0, none⟩) 0 0) [] (L.drop 1) rfl OA.out _ rfl (HLF.out _ (HL.out.below okN hS.kept)) HLE.out HLL.out.1 (fun v1 V3 ho hg => ?_)
      have HU1 := Lib.hid (HU1.out.grown HLT.out (fun k e => OA.out.ge k e) hg)
      have HV := Lib.hid (HV.out.beside HVL.out OA.out hg)
      have HLE := Lib.hid (show V0.heap.size ≤ V3.heap.size from Nat.le_trans HLE.out hg.size)
      have O1 := Lib.hid (show Blk V0.heap.size _ KN.T V3 from (hg.block _ O1.out.lt (fun e => by injection e with e; have := D.out; have e : V0.heap.size = V1.heap.size := e; omega)).trans O1.out)
      have O1L := Lib.hid (show V0.heap.size < V3.heap.size from O1.out.lt)
      have OA := Lib.hid (show KOwns KN V0.heap.size v1 ((L.drop 1)) V3 from ho)
      have VL := Lib.hid (ho.liesBelow)
      refine hK.out _ _ HU1.out.t (fun hS => ?_)
      clear hK K ho hg
      try simp only [Act.put, List.setIfInBounds_toArray, List.set_cons_zero, List.set_cons_succ]
      refine seqCall 11 rfl (by kernel_rfl) rfl (fun K hK => ?_)
      refine kappendWpB KN okN _ _ rfl V0.heap.size v1 (L.drop 1) [(y.1, y.1)] rfl OA.out _ rfl (Blk.klies (K := KN) (l := [(y.1, y.1)]) O1.out okN rfl) HLE.out HLL.out.2 (fun v2 V4 ho hg => ?_)
      have HU1 := Lib.hid (HU1.out.grown HLT.out (fun k e => OA.out.ge k e) hg)
      have HV := Lib.hid (HV.out.beside HVL.out OA.out hg)
      have HLE := Lib.hid (show V0.heap.size ≤ V4.heap.size from Nat.le_trans HLE.out hg.size)
      have OA := Lib.hid ho
      obtain ⟨qz, cz, rfl⟩ := ho.form
      refine hK.out _ _ HU1.out.t (fun hS => ?_)
      clear hK K ho hg O1
      try simp only [Act.put, List.setIfInBounds_toArray, List.set_cons_zero, List.set_cons_succ]
      refine seqRead 12 (v := _) rfl (by kernel_rfl) (by kernel_rfl) (by kernel_rfl) (fun _ _ _ h => h) rfl (fun w hSw => by go_simp <;> with_reducible rfl) hS ?_
      try simp only [Act.put, List.setIfInBounds_toArray, List.set_cons_zero, List.set_cons_succ]
      refine seqCall 13 rfl (by kernel_rfl) rfl (fun K hK => ?_)
      rw [show (L.drop 1 ++ [(y.1, y.1)]).length = n by rw [List.length_append, List.length_drop, ← HN.out]; show n - 1 + 1 = n; omega] at OA ⊢
      refine storeCellWp 22 _ _ rfl b9 3 (.slice qz (n) cz) rfl rfl rfl (HU1.out.q.there (by simp)) infoSl ?_
      have HU1 := Lib.hid (HU1.out.set9 (.slice qz (n) cz))
      have OA := Lib.hid (OA.out.setOther (k := 3) HLT.out.2.2.2 (.slice qz (n) cz))
      have HV := Lib.hid (HV.out.setOther (k := 3) HBx.out (.slice qz (n) cz))
      refine hK.out _ _ HU1.out.t (fun hS => ?_)
      clear hK K
      generalize hv : V4.setCell ⟨b9, 3, none⟩ (.slice qz (n) cz) = V5 at *
      clear hv
      try simp only [Act.put]
      refine seqDone (by kernel_rfl) ?_
      clear hS
      go_wp2_with fail
      go_meet
      case rel => exact ⟨qz, cz, by simpa using HU1.out, HV.out.lies okN, OA.out.lies okN⟩
  case rest =>
  obtain ⟨qb, cb, hu, ha, hb⟩ := hcut
  have HU0 := Lib.hid hu
  have HLA := Lib.hid ha
  have HLB := Lib.hid hb
  clear hu ha hb HLL HLF
  have H9A := Lib.hid (show (L ++ [y]).length ≤ 1000000 ∧ (L.drop 1 ++ [(y.1, y.1)]).length ≤ 1000000 by
    have := HN.out
    have := HN9.out
    rw [List.length_append, List.length_append, List.length_drop]
    simp only [List.length_cons, List.length_nil]
    omega)
  go_upto_region 9 with fail
  have HC := Lib.hid (tother_any U P R qa (n + 1) ca (L ++ [y]) H9A.out.1 y.1 wc HLA.out)
  rw [(lead_fault HFA.out).1, (lead_fault HFA.out).2] at HC
  have RA := Lib.hid (rngA HU0.out.t.b)
  go_wp2_with (first
    | (refine wpList_load_row rfl 24 _ rfl b8 rfl 24 (sca U P R qa (n + 1) ca) (0, 0) _ HU0.out.p Try.underlying24 rfl infoS4 ?_)
    | (refine wpList_load_mid rfl 26 _ rfl b7 0 rfl (ecl y.1) _ RA.out Try.underlying26 rfl infoE ?_)
    | (go_at_call 7; refine HC.out.mono ?_; rintro e W3 ⟨rfl, hb⟩; refine Hid.out ?_))
  have HU1 := Lib.hid (HU0.out.below hb)
  have HLA1 := Lib.hid (HLA.out.below okN hb)
  have HLB1 := Lib.hid (HLB.out.below okN hb)
  clear hb HC RA HU0 HLA HLB
  refine Lib.hid ?_
  go_upto_region 10 with (refine wpList_store_row rfl 26 _ _ rfl W3.heap.size #[.int .i64 0, .int .i64 0] rfl rfl 26 _ (heap_alloc_new _ _) infoE rfl (eca_one (0, 0)) ?_; rw [World.setRow_alloc_new])
  have hb := below1 W3 (.cells #[.int .i64 0, .int .i64 0] 26)
  have HU2 := Lib.hid (HU1.out.below hb)
  have HLA2 := Lib.hid (HLA1.out.below okN hb)
  have HLB2 := Lib.hid (HLB1.out.below okN hb)
  clear hb HU1 HLA1 HLB1
  generalize W3.alloc (.cells #[.int .i64 0, .int .i64 0] 26) = W4 at *
  have HC := Lib.hid (answers12 W4)
  go_wp2_with (go_at_call 6; refine HC.out.mono ?_; rintro e W5 ⟨rfl, hb⟩; refine Hid.out ?_)
  have HU3 := Lib.hid (HU2.out.below hb)
  have HLA3 := Lib.hid (HLA2.out.below okN hb)
  have HLB3 := Lib.hid (HLB2.out.below okN hb)
  have HC3 := Lib.hid (tsound_any U P R qa (n + 1) ca (L ++ [y]) H9A.out.1 W5 HLA3.out)
  rw [HFA.out] at HC3
  clear hb HC HU2 HLA2 HLB2
  refine Lib.hid ?_
  go_wp2_with (first
    | (refine loadRowG rfl 24 _ rfl b8 rfl 24 (sca U P R qa (n + 1) ca) (0, 0) HU3.out.p Try.underlying24 rfl infoS4 ?_)
    | (go_at_call 9; refine HC3.out.mono ?_; rintro e W6 ⟨rfl, hb⟩; refine Hid.out ?_))
  have HU4 := Lib.hid (HU3.out.below hb)
  have HLA4 := Lib.hid (HLA3.out.below okN hb)
  have HLB4 := Lib.hid (HLB3.out.below okN hb)
  have HC4 := Lib.hid (tsound_any U P R qb n cb (L.drop 1 ++ [(y.1, y.1)]) H9A.out.2 W6 HLB4.out)
  rw [HFB.out] at HC4
  clear hb HC3 HU3 HLA3 HLB3
  refine Lib.hid ?_
  go_wp2_with (first
    | (refine loadRowG rfl 24 _ rfl b9 rfl 24 (sca U P R qb n cb) (0, 0) HU4.out.q Try.underlying24 rfl infoS4 ?_)
    | (go_at_call 9; refine HC4.out.mono ?_; rintro e W7 ⟨rfl, hb⟩; refine Hid.out ?_))
  have HU5 := Lib.hid (HU4.out.below hb)
  have HLA5 := Lib.hid (HLA4.out.below okN hb)
  have HC5 := Lib.hid (tedges_any U P R qa (n + 1) ca (L ++ [y]) H9A.out.1 W7 HLA5.out)
  unfold EdgRet at HC5
  rw [edg_fault HFA.out] at HC5
  clear hb HC4 HU4 HLA4 HLB4
  refine Lib.hid ?_
  go_wp2_with (first
    | (refine loadRowG rfl 24 _ rfl b8 rfl 24 (sca U P R qa (n + 1) ca) (0, 0) HU5.out.p Try.underlying24 rfl infoS4 ?_)
    | (go_at_call 11; refine HC5.out.mono ?_; rintro e W8 ⟨v, rfl, ho, hb⟩; refine Hid.out ?_))
  have HB8 := Lib.hid (HU5.out.t.kept.trans (hb.mono HU5.out.t.kept.size))
  obtain ⟨qe, ce, rfl⟩ := ho.form
  clear hb ho HC5 HU5 HLA5
  refine Lib.hid ?_
  go_wp2_with fail
  go_ret
  exact ⟨rfl, HB8.out⟩
end Go.Proofs.Ytgmfmmabegcocaa
