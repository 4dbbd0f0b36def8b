/-
  The walk of the law CubeMakes, where With answers an error.
-/
import Derived.Test.YtioiecaklbifnaaDoorCubeMak
namespace Go.Proofs.YtioiecaklbifnaaDoor
open Go.RowKit

set_option maxRecDepth 100000 in
set_option maxHeartbeats 4000000 in
theorem makes_set (h c y : Nat → Int) (n v b e0 : Int) (ok : Bool) (hok : sndB h = ok) (h0 : Wf h) (c0 : Wf c) (hs : csnd c = true) (he : setE n v = e0) (hne : (e0 == 0) = false) (hne2 : (e0 != 0) = true) (hyz : cEq y zh = true)
    (hW : ∀ W, Tab W → 0 < W.heap.size → Calls Tryd.prog 10 #[.agg (cc c), .int .i64 n, .int .u64 v, .int .i64 b] W fun e w' => e = .returned (.tuple #[.agg (cc y), .int .i64 e0]) ∧ Below W.heap.size W w')
    (w : World) (ht : Tab w) (hz : 0 < w.heap.size) :
    Calls Tryd.prog 3 #[.agg (hc h), .agg (cc c), .int .i64 n, .int .u64 v, .int .i64 b] w fun e w' => e = .returned (.bool true) ∧ Below w.heap.size w w' := by
  have R0 := Lib.hid ((Blk.new w (hc h) 24).old (.cells (cc c) 26))
  have R1 := Lib.hid (Blk.new2 w (.cells (hc h) 24) (cc c) 26)
  have HE := Lib.hid (((Env.start ht hz).alloc (.cells (hc h) 24)).alloc (.cells (cc c) 26))
  have HX := Lib.hid fun W t z => cexact_any h h0.nonneg W t z
  have HSC := Lib.hid fun W t z => csound_any c c0.nonneg W t z
  have HRC := Lib.hid fun W => rcube_any c c0 W
  have HY := Lib.hid hW
  have H0 := Lib.hid h0
  have HXZ := Lib.hid (show ok = false → cEq (exaV h) zh = true from fun e => by unfold exaV; rw [hok, e]; exact cEq_refl _)
  have HXV := Lib.hid (show ok = true → exaV h = exactV h ∧ sndB h = true from fun e => by unfold exaV; rw [hok, e]; exact ⟨rfl, rfl⟩)
  have HRH := Lib.hid fun W => rhead_any h W
  rw [hok] at HX HRH
  clear hok
  have HS1 := Lib.hid fun W => rset_any zh n v W
  have HM1 := Lib.hid fun W => rmask_any n b W
  have HYZ := Lib.hid hyz
  clear hyz
  rw [he] at HS1
  clear he
  clear ht h0 c0 hW
  generalize exaV h = x at *
  go_enter Tryd.func3, Tryd.ntmps3
  go_wp2_with (refine wpList_load_row rfl 24 _ rfl w.heap.size rfl 24 (hc h) (0, 0) _ R0.out Tryd.underlying24 rfl (by kernel_rfl) ?_)
  refine (HX.out _ HE.out.tab HE.out.lt).mono ?_
  rintro e w1 ⟨rfl, hw1⟩
  have R01 := Lib.hid ((R0.out.below hw1).old (.cells (cc x) 26))
  have R11 := Lib.hid ((R1.out.below hw1).old (.cells (cc x) 26))
  have X1 := Lib.hid (Blk.new w1 (cc x) 26)
  have HE1 := Lib.hid ((HE.out.below hw1).alloc (.cells (cc x) 26))
  clear hw1 HE R0 R1 HX
  go_wp2_with (first
    | (refine wpList_store_row rfl 26 _ _ rfl w1.heap.size (cc x) rfl rfl 26 _ (heap_alloc_new _ _) (by kernel_rfl) rfl (cc_one _) ?_; rw [World.setRow_alloc_new])
    | (refine wpList_load_row rfl 26 _ rfl (w.heap.size + 1) rfl 26 (cc c) (0, 0) _ R11.out Tryd.underlying26 rfl (by kernel_rfl) ?_))
  refine (HY.out _ HE1.out.tab HE1.out.lt).mono ?_
  rintro e w2 ⟨rfl, hw2⟩
  have S2 := Lib.hid (show MakS w h c w1.heap.size x w2.heap.size y (w2.alloc (.cells (cc y) 26)) from
    ⟨(R01.out.below hw2).old _, (R11.out.below hw2).old _, (X1.out.below hw2).old _, Blk.new _ _ _, (HE1.out.below hw2).alloc _⟩)
  clear hw2 HE1 R01 R11 X1 HY
  have hgd := guardCube
  have heq : ∀ w, (Op.equalIn 10000 26 (.agg (cc zh)) (.agg #[Value.int IntKind.u64 0, Value.int IntKind.u64 0, Value.int IntKind.u64 0, Value.int IntKind.u64 0, Value.int IntKind.u64 0, Value.int IntKind.u64 0, Value.int IntKind.u64 0, Value.int IntKind.u64 0, Value.int IntKind.u64 0, Value.int IntKind.u64 0, Value.int IntKind.u64 0, Value.int IntKind.u64 0, Value.int IntKind.u64 0, Value.int IntKind.u64 0, Value.int IntKind.u64 0, Value.int IntKind.u64 0, Value.int IntKind.u64 0, Value.int IntKind.u64 0, Value.int IntKind.u64 0, Value.int IntKind.u64 0, Value.int IntKind.u64 0, Value.int IntKind.u64 0, Value.int IntKind.u64 0, Value.int IntKind.u64 0])).run Tryd.prog w = .ok true w := fun w => (eqlZero zh w).trans (by rw [cEq_refl])
  go_upto_region 3 with (refine wpList_store_row rfl 26 _ _ rfl w2.heap.size (cc y) rfl rfl 26 _ (heap_alloc_new _ _) (by kernel_rfl) rfl (cc_one _) ?_; rw [World.setRow_alloc_new])
  generalize w2.alloc (.cells (cc y) 26) = W3 at *
  generalize w1.heap.size = bx at *
  generalize w2.heap.size = by_ at *
  refine wp_region_held_drew (S := MakS w h c bx x by_ y) (by kernel_rfl) (MakS.below (Below.refl _ _).drew S2.out) (fun hS => ?_)
  clear S2
  refine seqCall 0 rfl (by kernel_rfl) rfl (fun K hK => ?_)
  go_simp
  refine (canswers _ hS.env.tab hS.env.lt).mono ?_
  rintro e v1 ⟨rfl, hv1⟩
  refine hK.out _ _ (MakS.below hv1 hS) (fun hS => ?_)
  clear hK K
  clear hv1
  try simp only [Act.put, List.setIfInBounds_toArray, List.set_cons_zero, List.set_cons_succ]
  refine seqRead 1 (v := _) rfl (by kernel_rfl) (by kernel_rfl) (by kernel_rfl) (fun _ _ _ h => h) rfl (fun w hSw => by go_simp <;> with_reducible rfl) hS ?_
  try simp only [Act.put, List.setIfInBounds_toArray, List.set_cons_zero, List.set_cons_succ]
  refine seqRead 2 (v := _) rfl (by kernel_rfl) (by kernel_rfl) (by kernel_rfl) (fun _ _ _ h => h) rfl (fun w hSw => by go_simp <;> with_reducible rfl) hS ?_
  try simp only [Act.put, List.setIfInBounds_toArray, List.set_cons_zero, List.set_cons_succ]
  refine seqRead 3 (v := _) rfl (by kernel_rfl) (by kernel_rfl) (by kernel_rfl) (fun _ _ _ h => h) rfl (fun w hSw => by go_simp <;> with_reducible rfl) hS ?_
  try simp only [Act.put, List.setIfInBounds_toArray, List.set_cons_zero, List.set_cons_succ]
  refine seqRead 4 (v := _) rfl (by kernel_rfl) (by kernel_rfl) (by kernel_rfl) (fun _ _ _ h => h) rfl (fun w hSw => execBlk rfl _ rfl hSw.1 Tryd.underlying24 rfl (by kernel_rfl)) hS ?_
  try simp only [Act.put, List.setIfInBounds_toArray, List.set_cons_zero, List.set_cons_succ]
  refine seqCall 5 rfl (by kernel_rfl) rfl (fun K hK => ?_)
  go_simp
  refine (HRH.out _).mono ?_
  rintro e v2 ⟨rfl, hv2⟩
  refine hK.out _ _ (MakS.below hv2 hS) (fun hS => ?_)
  clear hK K
  clear hv2
  try simp only [Act.put, List.setIfInBounds_toArray, List.set_cons_zero, List.set_cons_succ]
  refine seqRead 6 (v := _) rfl (by kernel_rfl) (by kernel_rfl) (by kernel_rfl) (fun _ _ _ h => h) rfl (fun w hSw => by go_simp <;> with_reducible rfl) hS ?_
  try simp only [Act.put, List.setIfInBounds_toArray, List.set_cons_zero, List.set_cons_succ]
  refine seqRead 7 (v := _) rfl (by kernel_rfl) (by kernel_rfl) (by kernel_rfl) (fun _ _ _ h => h) rfl (fun w hSw => by go_simp <;> with_reducible rfl) hS ?_
  try simp only [Act.put, List.setIfInBounds_toArray, List.set_cons_zero, List.set_cons_succ]
  refine seqRead 8 (v := _) rfl (by kernel_rfl) (by kernel_rfl) (by kernel_rfl) (fun _ _ _ h => h) rfl (fun w hSw => by go_simp <;> with_reducible rfl) hS ?_
  try simp only [Act.put, List.setIfInBounds_toArray, List.set_cons_zero, List.set_cons_succ]
  refine seqRead 9 (v := _) rfl (by kernel_rfl) (by kernel_rfl) (by kernel_rfl) (fun _ _ _ h => h) rfl (fun w hSw => execBlk rfl _ rfl hSw.2.1 Tryd.underlying26 rfl (by kernel_rfl)) hS ?_
  try simp only [Act.put, List.setIfInBounds_toArray, List.set_cons_zero, List.set_cons_succ]
  refine seqRead 11 (v := _) rfl (by kernel_rfl) (by kernel_rfl) (by kernel_rfl) (fun _ _ _ h => h) rfl (fun w hSw => execBlk rfl _ rfl hSw.2.1 Tryd.underlying26 rfl (by kernel_rfl)) hS ?_
  try simp only [Act.put, List.setIfInBounds_toArray, List.set_cons_zero, List.set_cons_succ]
  refine seqCall 10 rfl (by kernel_rfl) rfl (fun K hK => ?_)
  go_simp
  refine (HSC.out _ hS.env.tab hS.env.lt).mono ?_
  rintro e v3 ⟨rfl, hv3⟩
  refine hK.out _ _ (MakS.below hv3 hS) (fun hS => ?_)
  clear hK K
  clear hv3
  try simp only [Act.put, List.setIfInBounds_toArray, List.set_cons_zero, List.set_cons_succ]
  refine seqCall 12 rfl (by kernel_rfl) rfl (fun K hK => ?_)
  go_simp
  refine (HRC.out _).mono ?_
  rintro e v4 ⟨rfl, hv4⟩
  refine hK.out _ _ (MakS.below hv4 hS) (fun hS => ?_)
  clear hK K
  clear hv4
  try simp only [Act.put, List.setIfInBounds_toArray, List.set_cons_zero, List.set_cons_succ]
  refine seqRead 13 (v := _) rfl (by kernel_rfl) (by kernel_rfl) (by kernel_rfl) (fun _ _ _ h => h) rfl (fun w hSw => by go_simp <;> with_reducible rfl) hS ?_
  try simp only [Act.put, List.setIfInBounds_toArray, List.set_cons_zero, List.set_cons_succ]
  refine seqRead 14 (v := _) rfl (by kernel_rfl) (by kernel_rfl) (by kernel_rfl) (fun _ _ _ h => h) rfl (fun w hSw => by go_simp <;> with_reducible rfl) hS ?_
  try simp only [Act.put, List.setIfInBounds_toArray, List.set_cons_zero, List.set_cons_succ]
  refine seqRead 15 (v := _) rfl (by kernel_rfl) (by kernel_rfl) (by kernel_rfl) (fun _ _ _ h => h) rfl (fun w hSw => by go_simp <;> with_reducible rfl) hS ?_
  try simp only [Act.put, List.setIfInBounds_toArray, List.set_cons_zero, List.set_cons_succ]
  refine seqRead 17 (v := _) rfl (by kernel_rfl) (by kernel_rfl) (by kernel_rfl) (fun _ _ _ h => h) rfl (fun w hSw => by go_simp <;> with_reducible rfl) hS ?_
  try simp only [Act.put, List.setIfInBounds_toArray, List.set_cons_zero, List.set_cons_succ]
  refine seqCall 16 rfl (by kernel_rfl) rfl (fun K hK => ?_)
  go_simp
  refine (call_any _).mono ?_
  rintro e v5 ⟨rfl, hv5⟩
  refine hK.out _ _ (MakS.below hv5 hS) (fun hS => ?_)
  clear hK K
  clear hv5
  try simp only [Act.put, List.setIfInBounds_toArray, List.set_cons_zero, List.set_cons_succ]
  refine seqRead 18 (v := _) rfl (by kernel_rfl) (by kernel_rfl) (by kernel_rfl) (fun _ _ _ h => h) rfl (fun w hSw => by go_simp <;> with_reducible rfl) hS ?_
  try simp only [Act.put, List.setIfInBounds_toArray, List.set_cons_zero, List.set_cons_succ]
  refine seqRead 19 (v := _) rfl (by kernel_rfl) (by kernel_rfl) (by kernel_rfl) (fun _ _ _ h => h) rfl (fun w hSw => by go_simp <;> with_reducible rfl) hS ?_
  try simp only [Act.put, List.setIfInBounds_toArray, List.set_cons_zero, List.set_cons_succ]
  refine seqDone (by kernel_rfl) ?_
  have S4 := Lib.hid hS
  clear hS HSC
  go_upto_if 55 with (fail)
  go_cut [15, 16] (fun _ _ W => MakS w h c bx x by_ y W)
  case first =>
    cases ok
    · go_wp2_with fail
      go_meet
      case rel => exact S4.out
    · obtain ⟨hxe, hok⟩ := HXV.out rfl
      subst hxe
      have HTX := Lib.hid fun W => rtext_any (exactV h) (exactV_wf H0.out) W
      rw [exact_text h 12 (Nat.le_refl _)] at HTX
      have HHX := Lib.hid fun W t z => chas_any (exactV h) h (exactV_wf H0.out).nonneg H0.out.nonneg W t z
      rw [exact_has H0.out hok] at HHX
      have HWH := Lib.hid fun W => rwhole_any h H0.out W
      go_wp2_with (refine wpList_load_row rfl 26 _ rfl bx rfl 26 (cc (exactV h)) (0, 0) _ S4.out.2.2.1 Tryd.underlying26 rfl (by kernel_rfl) ?_)
      refine (HTX.out _).mono ?_
      rintro e w5 ⟨rfl, hw5⟩
      have S5 := Lib.hid (MakS.below hw5 S4.out)
      clear hw5 S4 HTX
      go_wp2_with (refine wpList_load_row rfl 24 _ rfl w.heap.size rfl 24 (hc h) (0, 0) _ S5.out.1 Tryd.underlying24 rfl (by kernel_rfl) ?_)
      refine (HWH.out _).mono ?_
      rintro e w6 ⟨rfl, hw6⟩
      have S6 := Lib.hid (MakS.below hw6 S5.out)
      clear hw6 S5 HWH
      go_wp2_with (first
        | (refine loadRowG rfl 26 _ rfl bx rfl 26 (cc (exactV h)) (0, 0) S6.out.2.2.1 Tryd.underlying26 rfl (by kernel_rfl) ?_)
        | (refine loadRowG rfl 24 _ rfl w.heap.size rfl 24 (hc h) (0, 0) S6.out.1 Tryd.underlying24 rfl (by kernel_rfl) ?_))
      refine (HHX.out _ S6.out.env.tab S6.out.env.lt).mono ?_
      rintro e w7 ⟨rfl, hw7⟩
      have S7 := Lib.hid (MakS.below hw7 S6.out)
      clear hw7 S6 HHX
      go_wp2_with fail
      go_meet
      case rel => exact S7.out
  case rest =>
    clear S4
    have S8 := Lib.hid hcut
    clear hcut HXV
    go_wp2_with fail
    refine (HS1.out _).mono ?_
    rintro e w9 ⟨rfl, hw9⟩
    have S9 := Lib.hid (MakS.below (below1 w9 (.cells (hc (setV zh n v)) 24)) (MakS.below hw9 S8.out))
    clear hw9 S8 HS1
    generalize setV zh n v = sv at *
    go_wp2_with (refine wpList_store_row rfl 24 _ _ rfl w9.heap.size (hc sv) rfl rfl 24 _ (heap_alloc_new _ _) (by kernel_rfl) rfl (hc_one _) ?_; rw [World.setRow_alloc_new])
    refine (HM1.out _).mono ?_
    rintro e w10 ⟨rfl, hw10⟩
    have S10 := Lib.hid (MakS.below hw10 S9.out)
    clear hw10 S9 HM1
    have S11 := Lib.hid (MakS.below (below1 w10 (.cells (cc c) 26)) S10.out)
    have WB := Lib.hid (Blk.new w10 (cc c) 26)
    go_wp2_with (first
      | (refine wpList_load_row rfl 26 _ rfl (w.heap.size + 1) rfl 26 (cc c) (0, 0) _ S10.out.2.1 Tryd.underlying26 rfl (by kernel_rfl) ?_)
      | (refine wpList_store_row rfl 26 _ _ rfl w10.heap.size (cc c) rfl rfl 26 _ (heap_alloc_new _ _) (by kernel_rfl) rfl (cc_one _) ?_; rw [World.setRow_alloc_new])
      | (refine wpList_load_row rfl 26 _ rfl (w.heap.size + 1) rfl 26 (cc c) (0, 0) _ S11.out.2.1 Tryd.underlying26 rfl (by kernel_rfl) ?_))
    refine (HRC.out _).mono ?_
    rintro e w12 ⟨rfl, hw12⟩
    have S12 := Lib.hid (MakS.below hw12 S11.out)
    have W12 := Lib.hid (WB.out.below hw12)
    have G12 := Lib.hid (show w.heap.size + 1 < w10.heap.size ∧ bx < w10.heap.size ∧ by_ < w10.heap.size from ⟨S10.out.2.1.lt, S10.out.2.2.1.lt, S10.out.2.2.2.1.lt⟩)
    clear hw12 S10 S11 WB HRC
    generalize w10.heap.size = bw at *
    have SF := Lib.hid (S12.out.setRow G12.out #[Value.int IntKind.u64 0, Value.int IntKind.u64 0, Value.int IntKind.u64 0, Value.int IntKind.u64 0, Value.int IntKind.u64 0, Value.int IntKind.u64 0, Value.int IntKind.u64 0, Value.int IntKind.u64 0, Value.int IntKind.u64 0, Value.int IntKind.u64 0, Value.int IntKind.u64 0, Value.int IntKind.u64 0, Value.int IntKind.u64 0, Value.int IntKind.u64 0, Value.int IntKind.u64 0, Value.int IntKind.u64 0, Value.int IntKind.u64 0, Value.int IntKind.u64 0, Value.int IntKind.u64 0, Value.int IntKind.u64 0, Value.int IntKind.u64 0, Value.int IntKind.u64 0, Value.int IntKind.u64 0, Value.int IntKind.u64 0] hz)
    have WF := Lib.hid (W12.out.rset #[Value.int IntKind.u64 0, Value.int IntKind.u64 0, Value.int IntKind.u64 0, Value.int IntKind.u64 0, Value.int IntKind.u64 0, Value.int IntKind.u64 0, Value.int IntKind.u64 0, Value.int IntKind.u64 0, Value.int IntKind.u64 0, Value.int IntKind.u64 0, Value.int IntKind.u64 0, Value.int IntKind.u64 0, Value.int IntKind.u64 0, Value.int IntKind.u64 0, Value.int IntKind.u64 0, Value.int IntKind.u64 0, Value.int IntKind.u64 0, Value.int IntKind.u64 0, Value.int IntKind.u64 0, Value.int IntKind.u64 0, Value.int IntKind.u64 0, Value.int IntKind.u64 0, Value.int IntKind.u64 0, Value.int IntKind.u64 0])
    have hyz : ∀ w, (Op.equalIn 10000 26 (.agg (cc y)) (.agg #[Value.int IntKind.u64 0, Value.int IntKind.u64 0, Value.int IntKind.u64 0, Value.int IntKind.u64 0, Value.int IntKind.u64 0, Value.int IntKind.u64 0, Value.int IntKind.u64 0, Value.int IntKind.u64 0, Value.int IntKind.u64 0, Value.int IntKind.u64 0, Value.int IntKind.u64 0, Value.int IntKind.u64 0, Value.int IntKind.u64 0, Value.int IntKind.u64 0, Value.int IntKind.u64 0, Value.int IntKind.u64 0, Value.int IntKind.u64 0, Value.int IntKind.u64 0, Value.int IntKind.u64 0, Value.int IntKind.u64 0, Value.int IntKind.u64 0, Value.int IntKind.u64 0, Value.int IntKind.u64 0, Value.int IntKind.u64 0])).run Tryd.prog w = .ok true w := fun w => (eqlZero y w).trans (by rw [HYZ.out])
    have hez : ∀ w, (Op.equalIn 10000 26 (.agg (cc x)) (.agg #[Value.int IntKind.u64 0, Value.int IntKind.u64 0, Value.int IntKind.u64 0, Value.int IntKind.u64 0, Value.int IntKind.u64 0, Value.int IntKind.u64 0, Value.int IntKind.u64 0, Value.int IntKind.u64 0, Value.int IntKind.u64 0, Value.int IntKind.u64 0, Value.int IntKind.u64 0, Value.int IntKind.u64 0, Value.int IntKind.u64 0, Value.int IntKind.u64 0, Value.int IntKind.u64 0, Value.int IntKind.u64 0, Value.int IntKind.u64 0, Value.int IntKind.u64 0, Value.int IntKind.u64 0, Value.int IntKind.u64 0, Value.int IntKind.u64 0, Value.int IntKind.u64 0, Value.int IntKind.u64 0, Value.int IntKind.u64 0])).run Tryd.prog w = .ok (cEq x zh) w := fun w => eqlZero x w
    cases ok
    · have hxz := HXZ.out rfl
      go_wp2_with (first
        | (refine wpList_store_row rfl 26 _ _ rfl bw #[Value.int IntKind.u64 0, Value.int IntKind.u64 0, Value.int IntKind.u64 0, Value.int IntKind.u64 0, Value.int IntKind.u64 0, Value.int IntKind.u64 0, Value.int IntKind.u64 0, Value.int IntKind.u64 0, Value.int IntKind.u64 0, Value.int IntKind.u64 0, Value.int IntKind.u64 0, Value.int IntKind.u64 0, Value.int IntKind.u64 0, Value.int IntKind.u64 0, Value.int IntKind.u64 0, Value.int IntKind.u64 0, Value.int IntKind.u64 0, Value.int IntKind.u64 0, Value.int IntKind.u64 0, Value.int IntKind.u64 0, Value.int IntKind.u64 0, Value.int IntKind.u64 0, Value.int IntKind.u64 0, Value.int IntKind.u64 0] rfl rfl 26 _ W12.out (by kernel_rfl) (cc_size _) (by kernel_rfl) ?_)
        | (refine loadRowG rfl 26 _ rfl bw rfl 26 #[Value.int IntKind.u64 0, Value.int IntKind.u64 0, Value.int IntKind.u64 0, Value.int IntKind.u64 0, Value.int IntKind.u64 0, Value.int IntKind.u64 0, Value.int IntKind.u64 0, Value.int IntKind.u64 0, Value.int IntKind.u64 0, Value.int IntKind.u64 0, Value.int IntKind.u64 0, Value.int IntKind.u64 0, Value.int IntKind.u64 0, Value.int IntKind.u64 0, Value.int IntKind.u64 0, Value.int IntKind.u64 0, Value.int IntKind.u64 0, Value.int IntKind.u64 0, Value.int IntKind.u64 0, Value.int IntKind.u64 0, Value.int IntKind.u64 0, Value.int IntKind.u64 0, Value.int IntKind.u64 0, Value.int IntKind.u64 0] (0, 0) WF.out Tryd.underlying26 rfl (by kernel_rfl) ?_)
        | (refine loadRowG rfl 26 _ rfl by_ rfl 26 (cc y) (0, 0) SF.out.2.2.2.1 Tryd.underlying26 rfl (by kernel_rfl) ?_)
        | (refine loadRowG rfl 26 _ rfl bx rfl 26 (cc x) (0, 0) SF.out.2.2.1 Tryd.underlying26 rfl (by kernel_rfl) ?_))
      go_ret
      exact ⟨by simp, SF.out.env.kept⟩
    · go_wp2_with (first
        | (refine wpList_store_row rfl 26 _ _ rfl bw #[Value.int IntKind.u64 0, Value.int IntKind.u64 0, Value.int IntKind.u64 0, Value.int IntKind.u64 0, Value.int IntKind.u64 0, Value.int IntKind.u64 0, Value.int IntKind.u64 0, Value.int IntKind.u64 0, Value.int IntKind.u64 0, Value.int IntKind.u64 0, Value.int IntKind.u64 0, Value.int IntKind.u64 0, Value.int IntKind.u64 0, Value.int IntKind.u64 0, Value.int IntKind.u64 0, Value.int IntKind.u64 0, Value.int IntKind.u64 0, Value.int IntKind.u64 0, Value.int IntKind.u64 0, Value.int IntKind.u64 0, Value.int IntKind.u64 0, Value.int IntKind.u64 0, Value.int IntKind.u64 0, Value.int IntKind.u64 0] rfl rfl 26 _ W12.out (by kernel_rfl) (cc_size _) (by kernel_rfl) ?_)
        | (refine loadRowG rfl 26 _ rfl bw rfl 26 #[Value.int IntKind.u64 0, Value.int IntKind.u64 0, Value.int IntKind.u64 0, Value.int IntKind.u64 0, Value.int IntKind.u64 0, Value.int IntKind.u64 0, Value.int IntKind.u64 0, Value.int IntKind.u64 0, Value.int IntKind.u64 0, Value.int IntKind.u64 0, Value.int IntKind.u64 0, Value.int IntKind.u64 0, Value.int IntKind.u64 0, Value.int IntKind.u64 0, Value.int IntKind.u64 0, Value.int IntKind.u64 0, Value.int IntKind.u64 0, Value.int IntKind.u64 0, Value.int IntKind.u64 0, Value.int IntKind.u64 0, Value.int IntKind.u64 0, Value.int IntKind.u64 0, Value.int IntKind.u64 0, Value.int IntKind.u64 0] (0, 0) WF.out Tryd.underlying26 rfl (by kernel_rfl) ?_)
        | (refine loadRowG rfl 26 _ rfl by_ rfl 26 (cc y) (0, 0) SF.out.2.2.2.1 Tryd.underlying26 rfl (by kernel_rfl) ?_)
        | (refine loadRowG rfl 26 _ rfl bx rfl 26 (cc x) (0, 0) SF.out.2.2.1 Tryd.underlying26 rfl (by kernel_rfl) ?_))
      go_ret
      exact ⟨by simp, SF.out.env.kept⟩
set_option maxRecDepth 100000 in
set_option maxHeartbeats 4000000 in
theorem makes_bits (h c y : Nat → Int) (n v b e0 : Int) (ok : Bool) (hok : sndB h = ok) (h0 : Wf h) (c0 : Wf c) (hs : csnd c = true) (hse : setE n v = 0) (hmb : maskB n b = false) (he : e0 = 13) (hyz : cEq y zh = true)
    (hW : ∀ W, Tab W → 0 < W.heap.size → Calls Tryd.prog 10 #[.agg (cc c), .int .i64 n, .int .u64 v, .int .i64 b] W fun e w' => e = .returned (.tuple #[.agg (cc y), .int .i64 e0]) ∧ Below W.heap.size W w')
    (w : World) (ht : Tab w) (hz : 0 < w.heap.size) :
    Calls Tryd.prog 3 #[.agg (hc h), .agg (cc c), .int .i64 n, .int .u64 v, .int .i64 b] w fun e w' => e = .returned (.bool true) ∧ Below w.heap.size w w' := by
  have R0 := Lib.hid ((Blk.new w (hc h) 24).old (.cells (cc c) 26))
  have R1 := Lib.hid (Blk.new2 w (.cells (hc h) 24) (cc c) 26)
  have HE := Lib.hid (((Env.start ht hz).alloc (.cells (hc h) 24)).alloc (.cells (cc c) 26))
  have HX := Lib.hid fun W t z => cexact_any h h0.nonneg W t z
  have HSC := Lib.hid fun W t z => csound_any c c0.nonneg W t z
  have HRC := Lib.hid fun W => rcube_any c c0 W
  have HY := Lib.hid hW
  have H0 := Lib.hid h0
  have HXZ := Lib.hid (show ok = false → cEq (exaV h) zh = true from fun e => by unfold exaV; rw [hok, e]; exact cEq_refl _)
  have HXV := Lib.hid (show ok = true → exaV h = exactV h ∧ sndB h = true from fun e => by unfold exaV; rw [hok, e]; exact ⟨rfl, rfl⟩)
  have HRH := Lib.hid fun W => rhead_any h W
  rw [hok] at HX HRH
  clear hok
  have HS1 := Lib.hid fun W => rset_any zh n v W
  have HM1 := Lib.hid fun W => rmask_any n b W
  have HYZ := Lib.hid hyz
  clear hyz
  subst he
  rw [hse] at HS1
  rw [hmb] at HM1
  clear hse hmb
  clear ht h0 c0 hW
  generalize exaV h = x at *
  go_enter Tryd.func3, Tryd.ntmps3
  go_wp2_with (refine wpList_load_row rfl 24 _ rfl w.heap.size rfl 24 (hc h) (0, 0) _ R0.out Tryd.underlying24 rfl (by kernel_rfl) ?_)
  refine (HX.out _ HE.out.tab HE.out.lt).mono ?_
  rintro e w1 ⟨rfl, hw1⟩
  have R01 := Lib.hid ((R0.out.below hw1).old (.cells (cc x) 26))
  have R11 := Lib.hid ((R1.out.below hw1).old (.cells (cc x) 26))
  have X1 := Lib.hid (Blk.new w1 (cc x) 26)
  have HE1 := Lib.hid ((HE.out.below hw1).alloc (.cells (cc x) 26))
  clear hw1 HE R0 R1 HX
  go_wp2_with (first
    | (refine wpList_store_row rfl 26 _ _ rfl w1.heap.size (cc x) rfl rfl 26 _ (heap_alloc_new _ _) (by kernel_rfl) rfl (cc_one _) ?_; rw [World.setRow_alloc_new])
    | (refine wpList_load_row rfl 26 _ rfl (w.heap.size + 1) rfl 26 (cc c) (0, 0) _ R11.out Tryd.underlying26 rfl (by kernel_rfl) ?_))
  refine (HY.out _ HE1.out.tab HE1.out.lt).mono ?_
  rintro e w2 ⟨rfl, hw2⟩
  have S2 := Lib.hid (show MakS w h c w1.heap.size x w2.heap.size y (w2.alloc (.cells (cc y) 26)) from
    ⟨(R01.out.below hw2).old _, (R11.out.below hw2).old _, (X1.out.below hw2).old _, Blk.new _ _ _, (HE1.out.below hw2).alloc _⟩)
  clear hw2 HE1 R01 R11 X1 HY
  have hgd := guardCube
  have heq : ∀ w, (Op.equalIn 10000 26 (.agg (cc zh)) (.agg #[Value.int IntKind.u64 0, Value.int IntKind.u64 0, Value.int IntKind.u64 0, Value.int IntKind.u64 0, Value.int IntKind.u64 0, Value.int IntKind.u64 0, Value.int IntKind.u64 0, Value.int IntKind.u64 0, Value.int IntKind.u64 0, Value.int IntKind.u64 0, Value.int IntKind.u64 0, Value.int IntKind.u64 0, Value.int IntKind.u64 0, Value.int IntKind.u64 0, Value.int IntKind.u64 0, Value.int IntKind.u64 0, Value.int IntKind.u64 0, Value.int IntKind.u64 0, Value.int IntKind.u64 0, Value.int IntKind.u64 0, Value.int IntKind.u64 0, Value.int IntKind.u64 0, Value.int IntKind.u64 0, Value.int IntKind.u64 0])).run Tryd.prog w = .ok true w := fun w => (eqlZero zh w).trans (by rw [cEq_refl])
  go_upto_region 3 with (refine wpList_store_row rfl 26 _ _ rfl w2.heap.size (cc y) rfl rfl 26 _ (heap_alloc_new _ _) (by kernel_rfl) rfl (cc_one _) ?_; rw [World.setRow_alloc_new])
  generalize w2.alloc (.cells (cc y) 26) = W3 at *
  generalize w1.heap.size = bx at *
  generalize w2.heap.size = by_ at *
  refine wp_region_held_drew (S := MakS w h c bx x by_ y) (by kernel_rfl) (MakS.below (Below.refl _ _).drew S2.out) (fun hS => ?_)
  clear S2
  refine seqCall 0 rfl (by kernel_rfl) rfl (fun K hK => ?_)
  go_simp
  refine (canswers _ hS.env.tab hS.env.lt).mono ?_
  rintro e v1 ⟨rfl, hv1⟩
  refine hK.out _ _ (MakS.below hv1 hS) (fun hS => ?_)
  clear hK K
  clear hv1
  try simp only [Act.put, List.setIfInBounds_toArray, List.set_cons_zero, List.set_cons_succ]
  refine seqRead 1 (v := _) rfl (by kernel_rfl) (by kernel_rfl) (by kernel_rfl) (fun _ _ _ h => h) rfl (fun w hSw => by go_simp <;> with_reducible rfl) hS ?_
  try simp only [Act.put, List.setIfInBounds_toArray, List.set_cons_zero, List.set_cons_succ]
  refine seqRead 2 (v := _) rfl (by kernel_rfl) (by kernel_rfl) (by kernel_rfl) (fun _ _ _ h => h) rfl (fun w hSw => by go_simp <;> with_reducible rfl) hS ?_
  try simp only [Act.put, List.setIfInBounds_toArray, List.set_cons_zero, List.set_cons_succ]
  refine seqRead 3 (v := _) rfl (by kernel_rfl) (by kernel_rfl) (by kernel_rfl) (fun _ _ _ h => h) rfl (fun w hSw => by go_simp <;> with_reducible rfl) hS ?_
  try simp only [Act.put, List.setIfInBounds_toArray, List.set_cons_zero, List.set_cons_succ]
  refine seqRead 4 (v := _) rfl (by kernel_rfl) (by kernel_rfl) (by kernel_rfl) (fun _ _ _ h => h) rfl (fun w hSw => execBlk rfl _ rfl hSw.1 Tryd.underlying24 rfl (by kernel_rfl)) hS ?_
  try simp only [Act.put, List.setIfInBounds_toArray, List.set_cons_zero, List.set_cons_succ]
  refine seqCall 5 rfl (by kernel_rfl) rfl (fun K hK => ?_)
  go_simp
  refine (HRH.out _).mono ?_
  rintro e v2 ⟨rfl, hv2⟩
  refine hK.out _ _ (MakS.below hv2 hS) (fun hS => ?_)
  clear hK K
  clear hv2
  try simp only [Act.put, List.setIfInBounds_toArray, List.set_cons_zero, List.set_cons_succ]
  refine seqRead 6 (v := _) rfl (by kernel_rfl) (by kernel_rfl) (by kernel_rfl) (fun _ _ _ h => h) rfl (fun w hSw => by go_simp <;> with_reducible rfl) hS ?_
  try simp only [Act.put, List.setIfInBounds_toArray, List.set_cons_zero, List.set_cons_succ]
  refine seqRead 7 (v := _) rfl (by kernel_rfl) (by kernel_rfl) (by kernel_rfl) (fun _ _ _ h => h) rfl (fun w hSw => by go_simp <;> with_reducible rfl) hS ?_
  try simp only [Act.put, List.setIfInBounds_toArray, List.set_cons_zero, List.set_cons_succ]
  refine seqRead 8 (v := _) rfl (by kernel_rfl) (by kernel_rfl) (by kernel_rfl) (fun _ _ _ h => h) rfl (fun w hSw => by go_simp <;> with_reducible rfl) hS ?_
  try simp only [Act.put, List.setIfInBounds_toArray, List.set_cons_zero, List.set_cons_succ]
  refine seqRead 9 (v := _) rfl (by kernel_rfl) (by kernel_rfl) (by kernel_rfl) (fun _ _ _ h => h) rfl (fun w hSw => execBlk rfl _ rfl hSw.2.1 Tryd.underlying26 rfl (by kernel_rfl)) hS ?_
  try simp only [Act.put, List.setIfInBounds_toArray, List.set_cons_zero, List.set_cons_succ]
  refine seqRead 11 (v := _) rfl (by kernel_rfl) (by kernel_rfl) (by kernel_rfl) (fun _ _ _ h => h) rfl (fun w hSw => execBlk rfl _ rfl hSw.2.1 Tryd.underlying26 rfl (by kernel_rfl)) hS ?_
  try simp only [Act.put, List.setIfInBounds_toArray, List.set_cons_zero, List.set_cons_succ]
  refine seqCall 10 rfl (by kernel_rfl) rfl (fun K hK => ?_)
  go_simp
  refine (HSC.out _ hS.env.tab hS.env.lt).mono ?_
  rintro e v3 ⟨rfl, hv3⟩
  refine hK.out _ _ (MakS.below hv3 hS) (fun hS => ?_)
  clear hK K
  clear hv3
  try simp only [Act.put, List.setIfInBounds_toArray, List.set_cons_zero, List.set_cons_succ]
  refine seqCall 12 rfl (by kernel_rfl) rfl (fun K hK => ?_)
  go_simp
  refine (HRC.out _).mono ?_
  rintro e v4 ⟨rfl, hv4⟩
  refine hK.out _ _ (MakS.below hv4 hS) (fun hS => ?_)
  clear hK K
  clear hv4
  try simp only [Act.put, List.setIfInBounds_toArray, List.set_cons_zero, List.set_cons_succ]
  refine seqRead 13 (v := _) rfl (by kernel_rfl) (by kernel_rfl) (by kernel_rfl) (fun _ _ _ h => h) rfl (fun w hSw => by go_simp <;> with_reducible rfl) hS ?_
  try simp only [Act.put, List.setIfInBounds_toArray, List.set_cons_zero, List.set_cons_succ]
  refine seqRead 14 (v := _) rfl (by kernel_rfl) (by kernel_rfl) (by kernel_rfl) (fun _ _ _ h => h) rfl (fun w hSw => by go_simp <;> with_reducible rfl) hS ?_
  try simp only [Act.put, List.setIfInBounds_toArray, List.set_cons_zero, List.set_cons_succ]
  refine seqRead 15 (v := _) rfl (by kernel_rfl) (by kernel_rfl) (by kernel_rfl) (fun _ _ _ h => h) rfl (fun w hSw => by go_simp <;> with_reducible rfl) hS ?_
  try simp only [Act.put, List.setIfInBounds_toArray, List.set_cons_zero, List.set_cons_succ]
  refine seqRead 17 (v := _) rfl (by kernel_rfl) (by kernel_rfl) (by kernel_rfl) (fun _ _ _ h => h) rfl (fun w hSw => by go_simp <;> with_reducible rfl) hS ?_
  try simp only [Act.put, List.setIfInBounds_toArray, List.set_cons_zero, List.set_cons_succ]
  refine seqCall 16 rfl (by kernel_rfl) rfl (fun K hK => ?_)
  go_simp
  refine (call_any _).mono ?_
  rintro e v5 ⟨rfl, hv5⟩
  refine hK.out _ _ (MakS.below hv5 hS) (fun hS => ?_)
  clear hK K
  clear hv5
  try simp only [Act.put, List.setIfInBounds_toArray, List.set_cons_zero, List.set_cons_succ]
  refine seqRead 18 (v := _) rfl (by kernel_rfl) (by kernel_rfl) (by kernel_rfl) (fun _ _ _ h => h) rfl (fun w hSw => by go_simp <;> with_reducible rfl) hS ?_
  try simp only [Act.put, List.setIfInBounds_toArray, List.set_cons_zero, List.set_cons_succ]
  refine seqRead 19 (v := _) rfl (by kernel_rfl) (by kernel_rfl) (by kernel_rfl) (fun _ _ _ h => h) rfl (fun w hSw => by go_simp <;> with_reducible rfl) hS ?_
  try simp only [Act.put, List.setIfInBounds_toArray, List.set_cons_zero, List.set_cons_succ]
  refine seqDone (by kernel_rfl) ?_
  have S4 := Lib.hid hS
  clear hS HSC
  go_upto_if 55 with (fail)
  go_cut [15, 16] (fun _ _ W => MakS w h c bx x by_ y W)
  case first =>
    cases ok
    · go_wp2_with fail
      go_meet
      case rel => exact S4.out
    · obtain ⟨hxe, hok⟩ := HXV.out rfl
      subst hxe
      have HTX := Lib.hid fun W => rtext_any (exactV h) (exactV_wf H0.out) W
      rw [exact_text h 12 (Nat.le_refl _)] at HTX
      have HHX := Lib.hid fun W t z => chas_any (exactV h) h (exactV_wf H0.out).nonneg H0.out.nonneg W t z
      rw [exact_has H0.out hok] at HHX
      have HWH := Lib.hid fun W => rwhole_any h H0.out W
      go_wp2_with (refine wpList_load_row rfl 26 _ rfl bx rfl 26 (cc (exactV h)) (0, 0) _ S4.out.2.2.1 Tryd.underlying26 rfl (by kernel_rfl) ?_)
      refine (HTX.out _).mono ?_
      rintro e w5 ⟨rfl, hw5⟩
      have S5 := Lib.hid (MakS.below hw5 S4.out)
      clear hw5 S4 HTX
      go_wp2_with (refine wpList_load_row rfl 24 _ rfl w.heap.size rfl 24 (hc h) (0, 0) _ S5.out.1 Tryd.underlying24 rfl (by kernel_rfl) ?_)
      refine (HWH.out _).mono ?_
      rintro e w6 ⟨rfl, hw6⟩
      have S6 := Lib.hid (MakS.below hw6 S5.out)
      clear hw6 S5 HWH
      go_wp2_with (first
        | (refine loadRowG rfl 26 _ rfl bx rfl 26 (cc (exactV h)) (0, 0) S6.out.2.2.1 Tryd.underlying26 rfl (by kernel_rfl) ?_)
        | (refine loadRowG rfl 24 _ rfl w.heap.size rfl 24 (hc h) (0, 0) S6.out.1 Tryd.underlying24 rfl (by kernel_rfl) ?_))
      refine (HHX.out _ S6.out.env.tab S6.out.env.lt).mono ?_
      rintro e w7 ⟨rfl, hw7⟩
      have S7 := Lib.hid (MakS.below hw7 S6.out)
      clear hw7 S6 HHX
      go_wp2_with fail
      go_meet
      case rel => exact S7.out
  case rest =>
    clear S4
    have S8 := Lib.hid hcut
    clear hcut HXV
    go_wp2_with fail
    refine (HS1.out _).mono ?_
    rintro e w9 ⟨rfl, hw9⟩
    have S9 := Lib.hid (MakS.below (below1 w9 (.cells (hc (setV zh n v)) 24)) (MakS.below hw9 S8.out))
    clear hw9 S8 HS1
    generalize setV zh n v = sv at *
    go_wp2_with (refine wpList_store_row rfl 24 _ _ rfl w9.heap.size (hc sv) rfl rfl 24 _ (heap_alloc_new _ _) (by kernel_rfl) rfl (hc_one _) ?_; rw [World.setRow_alloc_new])
    refine (HM1.out _).mono ?_
    rintro e w10 ⟨rfl, hw10⟩
    have S10 := Lib.hid (MakS.below hw10 S9.out)
    clear hw10 S9 HM1
    have S11 := Lib.hid (MakS.below (below1 w10 (.cells (cc c) 26)) S10.out)
    have WB := Lib.hid (Blk.new w10 (cc c) 26)
    go_wp2_with (first
      | (refine wpList_load_row rfl 26 _ rfl (w.heap.size + 1) rfl 26 (cc c) (0, 0) _ S10.out.2.1 Tryd.underlying26 rfl (by kernel_rfl) ?_)
      | (refine wpList_store_row rfl 26 _ _ rfl w10.heap.size (cc c) rfl rfl 26 _ (heap_alloc_new _ _) (by kernel_rfl) rfl (cc_one _) ?_; rw [World.setRow_alloc_new])
      | (refine wpList_load_row rfl 26 _ rfl (w.heap.size + 1) rfl 26 (cc c) (0, 0) _ S11.out.2.1 Tryd.underlying26 rfl (by kernel_rfl) ?_))
    refine (HRC.out _).mono ?_
    rintro e w12 ⟨rfl, hw12⟩
    have S12 := Lib.hid (MakS.below hw12 S11.out)
    have W12 := Lib.hid (WB.out.below hw12)
    have G12 := Lib.hid (show w.heap.size + 1 < w10.heap.size ∧ bx < w10.heap.size ∧ by_ < w10.heap.size from ⟨S10.out.2.1.lt, S10.out.2.2.1.lt, S10.out.2.2.2.1.lt⟩)
    clear hw12 S10 S11 WB HRC
    generalize w10.heap.size = bw at *
    have SF := Lib.hid (S12.out.setRow G12.out #[Value.int IntKind.u64 0, Value.int IntKind.u64 0, Value.int IntKind.u64 0, Value.int IntKind.u64 0, Value.int IntKind.u64 0, Value.int IntKind.u64 0, Value.int IntKind.u64 0, Value.int IntKind.u64 0, Value.int IntKind.u64 0, Value.int IntKind.u64 0, Value.int IntKind.u64 0, Value.int IntKind.u64 0, Value.int IntKind.u64 0, Value.int IntKind.u64 0, Value.int IntKind.u64 0, Value.int IntKind.u64 0, Value.int IntKind.u64 0, Value.int IntKind.u64 0, Value.int IntKind.u64 0, Value.int IntKind.u64 0, Value.int IntKind.u64 0, Value.int IntKind.u64 0, Value.int IntKind.u64 0, Value.int IntKind.u64 0] hz)
    have WF := Lib.hid (W12.out.rset #[Value.int IntKind.u64 0, Value.int IntKind.u64 0, Value.int IntKind.u64 0, Value.int IntKind.u64 0, Value.int IntKind.u64 0, Value.int IntKind.u64 0, Value.int IntKind.u64 0, Value.int IntKind.u64 0, Value.int IntKind.u64 0, Value.int IntKind.u64 0, Value.int IntKind.u64 0, Value.int IntKind.u64 0, Value.int IntKind.u64 0, Value.int IntKind.u64 0, Value.int IntKind.u64 0, Value.int IntKind.u64 0, Value.int IntKind.u64 0, Value.int IntKind.u64 0, Value.int IntKind.u64 0, Value.int IntKind.u64 0, Value.int IntKind.u64 0, Value.int IntKind.u64 0, Value.int IntKind.u64 0, Value.int IntKind.u64 0])
    have hyz : ∀ w, (Op.equalIn 10000 26 (.agg (cc y)) (.agg #[Value.int IntKind.u64 0, Value.int IntKind.u64 0, Value.int IntKind.u64 0, Value.int IntKind.u64 0, Value.int IntKind.u64 0, Value.int IntKind.u64 0, Value.int IntKind.u64 0, Value.int IntKind.u64 0, Value.int IntKind.u64 0, Value.int IntKind.u64 0, Value.int IntKind.u64 0, Value.int IntKind.u64 0, Value.int IntKind.u64 0, Value.int IntKind.u64 0, Value.int IntKind.u64 0, Value.int IntKind.u64 0, Value.int IntKind.u64 0, Value.int IntKind.u64 0, Value.int IntKind.u64 0, Value.int IntKind.u64 0, Value.int IntKind.u64 0, Value.int IntKind.u64 0, Value.int IntKind.u64 0, Value.int IntKind.u64 0])).run Tryd.prog w = .ok true w := fun w => (eqlZero y w).trans (by rw [HYZ.out])
    have hez : ∀ w, (Op.equalIn 10000 26 (.agg (cc x)) (.agg #[Value.int IntKind.u64 0, Value.int IntKind.u64 0, Value.int IntKind.u64 0, Value.int IntKind.u64 0, Value.int IntKind.u64 0, Value.int IntKind.u64 0, Value.int IntKind.u64 0, Value.int IntKind.u64 0, Value.int IntKind.u64 0, Value.int IntKind.u64 0, Value.int IntKind.u64 0, Value.int IntKind.u64 0, Value.int IntKind.u64 0, Value.int IntKind.u64 0, Value.int IntKind.u64 0, Value.int IntKind.u64 0, Value.int IntKind.u64 0, Value.int IntKind.u64 0, Value.int IntKind.u64 0, Value.int IntKind.u64 0, Value.int IntKind.u64 0, Value.int IntKind.u64 0, Value.int IntKind.u64 0, Value.int IntKind.u64 0])).run Tryd.prog w = .ok (cEq x zh) w := fun w => eqlZero x w
    cases ok
    · have hxz := HXZ.out rfl
      go_wp2_with (first
        | (refine wpList_store_row rfl 26 _ _ rfl bw #[Value.int IntKind.u64 0, Value.int IntKind.u64 0, Value.int IntKind.u64 0, Value.int IntKind.u64 0, Value.int IntKind.u64 0, Value.int IntKind.u64 0, Value.int IntKind.u64 0, Value.int IntKind.u64 0, Value.int IntKind.u64 0, Value.int IntKind.u64 0, Value.int IntKind.u64 0, Value.int IntKind.u64 0, Value.int IntKind.u64 0, Value.int IntKind.u64 0, Value.int IntKind.u64 0, Value.int IntKind.u64 0, Value.int IntKind.u64 0, Value.int IntKind.u64 0, Value.int IntKind.u64 0, Value.int IntKind.u64 0, Value.int IntKind.u64 0, Value.int IntKind.u64 0, Value.int IntKind.u64 0, Value.int IntKind.u64 0] rfl rfl 26 _ W12.out (by kernel_rfl) (cc_size _) (by kernel_rfl) ?_)
        | (refine loadRowG rfl 26 _ rfl bw rfl 26 #[Value.int IntKind.u64 0, Value.int IntKind.u64 0, Value.int IntKind.u64 0, Value.int IntKind.u64 0, Value.int IntKind.u64 0, Value.int IntKind.u64 0, Value.int IntKind.u64 0, Value.int IntKind.u64 0, Value.int IntKind.u64 0, Value.int IntKind.u64 0, Value.int IntKind.u64 0, Value.int IntKind.u64 0, Value.int IntKind.u64 0, Value.int IntKind.u64 0, Value.int IntKind.u64 0, Value.int IntKind.u64 0, Value.int IntKind.u64 0, Value.int IntKind.u64 0, Value.int IntKind.u64 0, Value.int IntKind.u64 0, Value.int IntKind.u64 0, Value.int IntKind.u64 0, Value.int IntKind.u64 0, Value.int IntKind.u64 0] (0, 0) WF.out Tryd.underlying26 rfl (by kernel_rfl) ?_)
        | (refine loadRowG rfl 26 _ rfl by_ rfl 26 (cc y) (0, 0) SF.out.2.2.2.1 Tryd.underlying26 rfl (by kernel_rfl) ?_)
        | (refine loadRowG rfl 26 _ rfl bx rfl 26 (cc x) (0, 0) SF.out.2.2.1 Tryd.underlying26 rfl (by kernel_rfl) ?_))
      go_ret
      exact ⟨by simp, SF.out.env.kept⟩
    · go_wp2_with (first
        | (refine wpList_store_row rfl 26 _ _ rfl bw #[Value.int IntKind.u64 0, Value.int IntKind.u64 0, Value.int IntKind.u64 0, Value.int IntKind.u64 0, Value.int IntKind.u64 0, Value.int IntKind.u64 0, Value.int IntKind.u64 0, Value.int IntKind.u64 0, Value.int IntKind.u64 0, Value.int IntKind.u64 0, Value.int IntKind.u64 0, Value.int IntKind.u64 0, Value.int IntKind.u64 0, Value.int IntKind.u64 0, Value.int IntKind.u64 0, Value.int IntKind.u64 0, Value.int IntKind.u64 0, Value.int IntKind.u64 0, Value.int IntKind.u64 0, Value.int IntKind.u64 0, Value.int IntKind.u64 0, Value.int IntKind.u64 0, Value.int IntKind.u64 0, Value.int IntKind.u64 0] rfl rfl 26 _ W12.out (by kernel_rfl) (cc_size _) (by kernel_rfl) ?_)
        | (refine loadRowG rfl 26 _ rfl bw rfl 26 #[Value.int IntKind.u64 0, Value.int IntKind.u64 0, Value.int IntKind.u64 0, Value.int IntKind.u64 0, Value.int IntKind.u64 0, Value.int IntKind.u64 0, Value.int IntKind.u64 0, Value.int IntKind.u64 0, Value.int IntKind.u64 0, Value.int IntKind.u64 0, Value.int IntKind.u64 0, Value.int IntKind.u64 0, Value.int IntKind.u64 0, Value.int IntKind.u64 0, Value.int IntKind.u64 0, Value.int IntKind.u64 0, Value.int IntKind.u64 0, Value.int IntKind.u64 0, Value.int IntKind.u64 0, Value.int IntKind.u64 0, Value.int IntKind.u64 0, Value.int IntKind.u64 0, Value.int IntKind.u64 0, Value.int IntKind.u64 0] (0, 0) WF.out Tryd.underlying26 rfl (by kernel_rfl) ?_)
        | (refine loadRowG rfl 26 _ rfl by_ rfl 26 (cc y) (0, 0) SF.out.2.2.2.1 Tryd.underlying26 rfl (by kernel_rfl) ?_)
        | (refine loadRowG rfl 26 _ rfl bx rfl 26 (cc x) (0, 0) SF.out.2.2.1 Tryd.underlying26 rfl (by kernel_rfl) ?_))
      go_ret
      exact ⟨by simp, SF.out.env.kept⟩
end Go.Proofs.YtioiecaklbifnaaDoor
