/-
  fault: the error of a change that is judged.
-/
import Derived.Test.YtomnpfbebimpkaaGreatDoorUniKey
import Derived.Test.YtomnpfbebimpkaaGreatDoorUniTrn
namespace Go.Proofs.YtomnpfbebimpkaaGreatDoor
set_option maxRecDepth 20000
open Go.RowKit

/-- the change's box, the unit's room -/
def JuS (w0 : World) (m : Mm) (x : Um) (W : World) : Prop := Blk w0.heap.size (mca m) 40 W ∧ W.cell? ⟨x.p, 0, none⟩ = some (.int .i64 x.room)
theorem JuS.below {w0 W W' : World} {m : Mm} {x : Um} (hb : Below W.heap.size W W') (h : JuS w0 m x W) : JuS w0 m x W' := ⟨h.1.below hb, (hb.cell (p := ⟨x.p, 0, none⟩) (World.block_lt_of_cell? _ _ h.2)).trans h.2⟩
set_option maxHeartbeats 2000000 in
set_option maxRecDepth 100000 in
theorem un_jud_no (x : Um) (B k : Nat) (hF : FitM k x) (m : Mm) (hw : WfM m.u) (w0 : World) (h : UniA B x w0) (hi : InM m w0) (ht : Tab w0) (hz : 0 < w0.heap.size) (hfl : x.fail = false) (EE : Int) (hE : applyE x.un.view m.u bigI = EE) (h0 : EE ≠ 0) :
    Calls Tryz.prog 73 #[.pointer (some ⟨x.p, 0, none⟩), .agg (mca m)] w0 fun e w' => e = .returned (.int .i64 EE) ∧ Below w0.heap.size w0 w' := by
  have HF := Lib.hid hF
  have HWM := Lib.hid hw
  have HIM := Lib.hid hi
  have HVL := Lib.hid (show x.un.view.length ≤ 9000 by have := hF.fit.view_len; have := hF.n; omega)
  have HVW := Lib.hid hF.fit.view
  have HB0 := Lib.hid (below1 w0 (.cells (mca m) 40))
  have HE := Lib.hid (((Env.start ht hz).alloc (.cells (mca m) 40)).drew)
  have HU := Lib.hid (show UniA B x ((w0.alloc (.cells (mca m) 40)).drew) from h.below ((HB0.out.trans (Below.refl _ _)).drew))
  have HS0 := Lib.hid (show JuS w0 m x ((w0.alloc (.cells (mca m) 40)).drew) from ⟨Blk.new w0 (mca m) 40, HU.out.room_⟩)
  have c3 : (w0.alloc (.cells (mca m) 40)).cell? ⟨x.p, 3, none⟩ = some (.bool false) := by rw [← hfl]; exact (h.below HB0.out).fail_
  have HEE := Lib.hid hE
  have hne : (EE != 0) = true := by simpa using h0
  clear hE h0 hF hw hi ht h hfl HB0
  go_enter Tryz.func73, Tryz.ntmps73
  go_upto_region 4 with fail
  refine wp_region_held_drew (S := JuS w0 m x) (by kernel_rfl) HS0.out (fun hS => ?_)
  clear HS0 c3
  generalize (w0.alloc (.cells (mca m) 40)).drew = W at *
  refine seqRead 0 (v := _) rfl (by kernel_rfl) (by kernel_rfl) (by kernel_rfl) (fun _ _ _ h => h) rfl (fun w hSw => by go_simp <;> with_reducible rfl) hS ?_
  try simp only [Act.put, List.setIfInBounds_toArray, List.set_cons_zero, List.set_cons_succ]
  refine seqRead 2 (v := _) rfl (by kernel_rfl) (by kernel_rfl) (by kernel_rfl) (fun _ _ _ h => h) rfl (fun w hSw => (show (execOp _ _).run _ w = .ok (.value (.agg (mca m))) w from execRow0 rfl w0.heap.size rfl hSw.1 Tryz.underlying40 rfl infoMod)) hS ?_
  try simp only [Act.put, List.setIfInBounds_toArray, List.set_cons_zero, List.set_cons_succ]
  refine seqCall 1 rfl (by kernel_rfl) rfl (fun K hK => ?_)
  go_simp
  refine (un_view x B k HF.out W HU.out HE.out.tab HE.out.lt).mono ?_
  rintro e w1 ⟨vv, Lv, rfl, huv, hov, hw1⟩
  have HUV := Lib.hid huv
  have HOV := Lib.hid hov
  have HU1 := Lib.hid (HU.out.below hw1)
  have HE1 := Lib.hid (HE.out.below hw1)
  have HS1 := Lib.hid (JuS.below hw1 hS)
  have HAP := Lib.hid (apply_at vv Lv (by have := congrArg List.length HUV.out; rw [List.length_map] at this; have := HVL.out; omega) (HVW.out.rl HUV.out) m HWM.out bigI w1 HOV.out.lies (HIM.out.below (HE1.out.kept)) HE1.out.tab HE1.out.lt x.un.view HUV.out EE _ HEE.out rfl)
  refine hK.out _ _ HS1.out (fun hS => ?_)
  clear hK K huv hov hw1
  try simp only [Act.put, List.setIfInBounds_toArray, List.set_cons_zero, List.set_cons_succ]
  refine seqCall 3 rfl (by kernel_rfl) rfl (fun K hK => ?_)
  go_simp
  refine (HAP.out).mono ?_
  rintro e w2 ⟨v2, L2, rfl, hu2, hi2⟩
  have HU2 := Lib.hid (HU1.out.below hi2.2.2)
  have HE2 := Lib.hid (HE1.out.below hi2.2.2)
  have HS2 := Lib.hid (JuS.below hi2.2.2 HS1.out)
  refine hK.out _ _ HS2.out (fun hS => ?_)
  clear hK K hu2 hi2 HAP HU1 HE1 HS1 HOV HUV
  try simp only [Act.put, List.setIfInBounds_toArray, List.set_cons_zero, List.set_cons_succ]
  refine seqRead 4 (v := _) rfl (by kernel_rfl) (by kernel_rfl) (by kernel_rfl) (fun _ _ _ h => h) rfl (fun w hSw => by go_simp <;> with_reducible rfl) hS ?_
  try simp only [Act.put, List.setIfInBounds_toArray, List.set_cons_zero, List.set_cons_succ]
  refine seqRead 5 (v := _) rfl (by kernel_rfl) (by kernel_rfl) (by kernel_rfl) (fun _ _ _ h => h) rfl (fun w hSw => by go_simp <;> with_reducible rfl) hS ?_
  try simp only [Act.put, List.setIfInBounds_toArray, List.set_cons_zero, List.set_cons_succ]
  refine seqRead 6 (v := _) rfl (by kernel_rfl) (by kernel_rfl) (by kernel_rfl) (fun _ _ _ h => h) rfl (fun w hSw => by go_simp <;> with_reducible rfl) hS ?_
  try simp only [Act.put, List.setIfInBounds_toArray, List.set_cons_zero, List.set_cons_succ]
  refine seqRead 7 (v := _) rfl (by kernel_rfl) (by kernel_rfl) (by kernel_rfl) (fun _ _ _ h => h) rfl (fun w hSw => by go_simp <;> with_reducible rfl) hS ?_
  try simp only [Act.put, List.setIfInBounds_toArray, List.set_cons_zero, List.set_cons_succ]
  refine seqRead 8 (v := _) rfl (by kernel_rfl) (by kernel_rfl) (by kernel_rfl) (fun _ _ _ h => h) rfl (fun w hSw => by go_simp <;> with_reducible rfl) hS ?_
  try simp only [Act.put, List.setIfInBounds_toArray, List.set_cons_zero, List.set_cons_succ]
  refine seqDone (by kernel_rfl) ?_
  clear hS
  go_upto_region 7 with fail
  go_wp2_with fail
  go_ret
  exact ⟨rfl, HE2.out.kept⟩
set_option maxHeartbeats 2000000 in
set_option maxRecDepth 100000 in
theorem un_jud_oth (x : Um) (B k : Nat) (hF : FitM k x) (m : Mm) (hw : WfM m.u) (w0 : World) (h : UniA B x w0) (hi : InM m w0) (ht : Tab w0) (hz : 0 < w0.heap.size) (hfl : x.fail = false) (hE : applyE x.un.view m.u bigI = 0) (hk : m.u.kind ≠ 1) :
    Calls Tryz.prog 73 #[.pointer (some ⟨x.p, 0, none⟩), .agg (mca m)] w0 fun e w' => e = .returned (.int .i64 0) ∧ Below w0.heap.size w0 w' := by
  have HF := Lib.hid hF
  have HWM := Lib.hid hw
  have HIM := Lib.hid hi
  have HVL := Lib.hid (show x.un.view.length ≤ 9000 by have := hF.fit.view_len; have := hF.n; omega)
  have HVW := Lib.hid hF.fit.view
  have HB0 := Lib.hid (below1 w0 (.cells (mca m) 40))
  have HE := Lib.hid (((Env.start ht hz).alloc (.cells (mca m) 40)).drew)
  have HU := Lib.hid (show UniA B x ((w0.alloc (.cells (mca m) 40)).drew) from h.below ((HB0.out.trans (Below.refl _ _)).drew))
  have HS0 := Lib.hid (show JuS w0 m x ((w0.alloc (.cells (mca m) 40)).drew) from ⟨Blk.new w0 (mca m) 40, HU.out.room_⟩)
  have c3 : (w0.alloc (.cells (mca m) 40)).cell? ⟨x.p, 3, none⟩ = some (.bool false) := by rw [← hfl]; exact (h.below HB0.out).fail_
  obtain ⟨EE, hEE⟩ : ∃ EE : Int, EE = 0 := ⟨_, rfl⟩
  rw [← hEE] at hE
  have HEE := Lib.hid hE
  have hne : (EE != 0) = false := by rw [hEE]; rfl
  have hk' : (m.u.kind == 1) = false := by simpa using hk
  have HE0 := Lib.hid hEE
  clear hE hk hEE hF hw hi ht h hfl HB0
  go_enter Tryz.func73, Tryz.ntmps73
  go_upto_region 4 with fail
  refine wp_region_held_drew (S := JuS w0 m x) (by kernel_rfl) HS0.out (fun hS => ?_)
  clear HS0 c3
  generalize (w0.alloc (.cells (mca m) 40)).drew = W at *
  refine seqRead 0 (v := _) rfl (by kernel_rfl) (by kernel_rfl) (by kernel_rfl) (fun _ _ _ h => h) rfl (fun w hSw => by go_simp <;> with_reducible rfl) hS ?_
  try simp only [Act.put, List.setIfInBounds_toArray, List.set_cons_zero, List.set_cons_succ]
  refine seqRead 2 (v := _) rfl (by kernel_rfl) (by kernel_rfl) (by kernel_rfl) (fun _ _ _ h => h) rfl (fun w hSw => (show (execOp _ _).run _ w = .ok (.value (.agg (mca m))) w from execRow0 rfl w0.heap.size rfl hSw.1 Tryz.underlying40 rfl infoMod)) hS ?_
  try simp only [Act.put, List.setIfInBounds_toArray, List.set_cons_zero, List.set_cons_succ]
  refine seqCall 1 rfl (by kernel_rfl) rfl (fun K hK => ?_)
  go_simp
  refine (un_view x B k HF.out W HU.out HE.out.tab HE.out.lt).mono ?_
  rintro e w1 ⟨vv, Lv, rfl, huv, hov, hw1⟩
  have HUV := Lib.hid huv
  have HOV := Lib.hid hov
  have HU1 := Lib.hid (HU.out.below hw1)
  have HE1 := Lib.hid (HE.out.below hw1)
  have HS1 := Lib.hid (JuS.below hw1 hS)
  have HAP := Lib.hid (apply_at vv Lv (by have := congrArg List.length HUV.out; rw [List.length_map] at this; have := HVL.out; omega) (HVW.out.rl HUV.out) m HWM.out bigI w1 HOV.out.lies (HIM.out.below (HE1.out.kept)) HE1.out.tab HE1.out.lt x.un.view HUV.out EE _ HEE.out rfl)
  refine hK.out _ _ HS1.out (fun hS => ?_)
  clear hK K huv hov hw1
  try simp only [Act.put, List.setIfInBounds_toArray, List.set_cons_zero, List.set_cons_succ]
  refine seqCall 3 rfl (by kernel_rfl) rfl (fun K hK => ?_)
  go_simp
  refine (HAP.out).mono ?_
  rintro e w2 ⟨v2, L2, rfl, hu2, hi2⟩
  have HU2 := Lib.hid (HU1.out.below hi2.2.2)
  have HE2 := Lib.hid (HE1.out.below hi2.2.2)
  have HS2 := Lib.hid (JuS.below hi2.2.2 HS1.out)
  refine hK.out _ _ HS2.out (fun hS => ?_)
  clear hK K hu2 hi2 HAP HU1 HE1 HS1 HOV HUV
  try simp only [Act.put, List.setIfInBounds_toArray, List.set_cons_zero, List.set_cons_succ]
  refine seqRead 4 (v := _) rfl (by kernel_rfl) (by kernel_rfl) (by kernel_rfl) (fun _ _ _ h => h) rfl (fun w hSw => by go_simp <;> with_reducible rfl) hS ?_
  try simp only [Act.put, List.setIfInBounds_toArray, List.set_cons_zero, List.set_cons_succ]
  refine seqRead 5 (v := _) rfl (by kernel_rfl) (by kernel_rfl) (by kernel_rfl) (fun _ _ _ h => h) rfl (fun w hSw => by go_simp <;> with_reducible rfl) hS ?_
  try simp only [Act.put, List.setIfInBounds_toArray, List.set_cons_zero, List.set_cons_succ]
  refine seqRead 6 (v := _) rfl (by kernel_rfl) (by kernel_rfl) (by kernel_rfl) (fun _ _ _ h => h) rfl (fun w hSw => by go_simp <;> with_reducible rfl) hS ?_
  try simp only [Act.put, List.setIfInBounds_toArray, List.set_cons_zero, List.set_cons_succ]
  refine seqRead 7 (v := _) rfl (by kernel_rfl) (by kernel_rfl) (by kernel_rfl) (fun _ _ _ h => h) rfl (fun w hSw => by go_simp <;> with_reducible rfl) hS ?_
  try simp only [Act.put, List.setIfInBounds_toArray, List.set_cons_zero, List.set_cons_succ]
  refine seqRead 8 (v := _) rfl (by kernel_rfl) (by kernel_rfl) (by kernel_rfl) (fun _ _ _ h => h) rfl (fun w hSw => by go_simp <;> with_reducible rfl) hS ?_
  try simp only [Act.put, List.setIfInBounds_toArray, List.set_cons_zero, List.set_cons_succ]
  refine seqDone (by kernel_rfl) ?_
  clear hS
  go_upto_region 7 with fail
  refine wp_region_held_drew (S := JuS w0 m x) (by kernel_rfl) (JuS.below (Below.refl _ _).drew HS2.out) (fun hS => ?_)
  have HB2 := Lib.hid (HE2.out.kept.drew)
  clear HS2 HU2 HE2
  generalize w2.drew = W2 at *
  refine seqRead 0 (v := _) rfl (by kernel_rfl) (by kernel_rfl) (by kernel_rfl) (fun _ _ _ h => h) rfl (fun w hSw => by go_simp <;> with_reducible rfl) hS ?_
  try simp only [Act.put, List.setIfInBounds_toArray, List.set_cons_zero, List.set_cons_succ]
  refine seqRead 1 (v := _) rfl (by kernel_rfl) (by kernel_rfl) (by kernel_rfl) (fun _ _ _ h => h) rfl (fun w hSw => (by have hc := hSw.1.cellsM.1; go_simp <;> with_reducible rfl)) hS ?_
  try simp only [Act.put, List.setIfInBounds_toArray, List.set_cons_zero, List.set_cons_succ]
  refine seqRead 2 (v := _) rfl (by kernel_rfl) (by kernel_rfl) (by kernel_rfl) (fun _ _ _ h => h) rfl (fun w hSw => by go_simp <;> with_reducible rfl) hS ?_
  try simp only [Act.put, List.setIfInBounds_toArray, List.set_cons_zero, List.set_cons_succ]
  refine seqRead 3 (v := _) rfl (by kernel_rfl) (by kernel_rfl) (by kernel_rfl) (fun _ _ _ h => h) rfl (fun w hSw => by go_simp <;> with_reducible rfl) hS ?_
  try simp only [Act.put, List.setIfInBounds_toArray, List.set_cons_zero, List.set_cons_succ]
  refine seqSkip 4 rfl (by kernel_rfl) (by kernel_rfl) (by kernel_rfl) (fun _ _ _ h => h) rfl hS ?_
  try simp only [Act.put, List.setIfInBounds_toArray, List.set_cons_zero, List.set_cons_succ]
  refine seqSkip 5 rfl (by kernel_rfl) (by kernel_rfl) (by kernel_rfl) (fun _ _ _ h => h) rfl hS ?_
  try simp only [Act.put, List.setIfInBounds_toArray, List.set_cons_zero, List.set_cons_succ]
  refine seqSkip 6 rfl (by kernel_rfl) (by kernel_rfl) (by kernel_rfl) (fun _ _ _ h => h) rfl hS ?_
  try simp only [Act.put, List.setIfInBounds_toArray, List.set_cons_zero, List.set_cons_succ]
  refine seqSkip 7 rfl (by kernel_rfl) (by kernel_rfl) (by kernel_rfl) (fun _ _ _ h => h) rfl hS ?_
  try simp only [Act.put, List.setIfInBounds_toArray, List.set_cons_zero, List.set_cons_succ]
  refine seqSkip 8 rfl (by kernel_rfl) (by kernel_rfl) (by kernel_rfl) (fun _ _ _ h => h) rfl hS ?_
  try simp only [Act.put, List.setIfInBounds_toArray, List.set_cons_zero, List.set_cons_succ]
  refine seqSkip 9 rfl (by kernel_rfl) (by kernel_rfl) (by kernel_rfl) (fun _ _ _ h => h) rfl hS ?_
  try simp only [Act.put, List.setIfInBounds_toArray, List.set_cons_zero, List.set_cons_succ]
  refine seqSkip 10 rfl (by kernel_rfl) (by kernel_rfl) (by kernel_rfl) (fun _ _ _ h => h) rfl hS ?_
  try simp only [Act.put, List.setIfInBounds_toArray, List.set_cons_zero, List.set_cons_succ]
  refine seqSkip 11 rfl (by kernel_rfl) (by kernel_rfl) (by kernel_rfl) (fun _ _ _ h => h) rfl hS ?_
  try simp only [Act.put, List.setIfInBounds_toArray, List.set_cons_zero, List.set_cons_succ]
  refine seqRead 12 (v := _) rfl (by kernel_rfl) (by kernel_rfl) (by kernel_rfl) (fun _ _ _ h => h) rfl (fun w hSw => by go_simp <;> with_reducible rfl) hS ?_
  try simp only [Act.put, List.setIfInBounds_toArray, List.set_cons_zero, List.set_cons_succ]
  refine seqDone (by kernel_rfl) ?_
  clear hS
  go_wp2_with fail
  go_ret
  exact ⟨rfl, HB2.out⟩
set_option maxHeartbeats 2000000 in
set_option maxRecDepth 100000 in
theorem un_jud_add (x : Um) (B k : Nat) (hF : FitM k x) (m : Mm) (hw : WfM m.u) (w0 : World) (h : UniA B x w0) (hi : InM m w0) (ht : Tab w0) (hz : 0 < w0.heap.size) (hfl : x.fail = false) (hE : applyE x.un.view m.u bigI = 0) (hk : m.u.kind = 1) :
    Calls Tryz.prog 73 #[.pointer (some ⟨x.p, 0, none⟩), .agg (mca m)] w0 fun e w' => e = .returned (.int .i64 (if x.room < ((keysU x.un.base (chgO x.un.opn ++ [m.u])).length : Int) then 3 else 0)) ∧ Below w0.heap.size w0 w' := by
  have HF := Lib.hid hF
  have HWM := Lib.hid hw
  have HIM := Lib.hid hi
  have HVL := Lib.hid (show x.un.view.length ≤ 9000 by have := hF.fit.view_len; have := hF.n; omega)
  have HVW := Lib.hid hF.fit.view
  have HB0 := Lib.hid (below1 w0 (.cells (mca m) 40))
  have HE := Lib.hid (((Env.start ht hz).alloc (.cells (mca m) 40)).drew)
  have HU := Lib.hid (show UniA B x ((w0.alloc (.cells (mca m) 40)).drew) from h.below ((HB0.out.trans (Below.refl _ _)).drew))
  have HS0 := Lib.hid (show JuS w0 m x ((w0.alloc (.cells (mca m) 40)).drew) from ⟨Blk.new w0 (mca m) 40, HU.out.room_⟩)
  have c3 : (w0.alloc (.cells (mca m) 40)).cell? ⟨x.p, 3, none⟩ = some (.bool false) := by rw [← hfl]; exact (h.below HB0.out).fail_
  obtain ⟨EE, hEE⟩ : ∃ EE : Int, EE = 0 := ⟨_, rfl⟩
  rw [← hEE] at hE
  have HEE := Lib.hid hE
  have hne : (EE != 0) = false := by rw [hEE]; rfl
  have hk' : (m.u.kind == 1) = true := by simpa using hk
  obtain ⟨kn, hkn⟩ : ∃ kn : Int, kn = ((keysU x.un.base (chgO x.un.opn ++ [m.u])).length : Int) := ⟨_, rfl⟩
  have HKK := Lib.hid hkn
  rw [← hkn]
  clear hkn
  by_cases hgt : x.room < kn
  · rw [if_pos hgt]
    have hgd : decide (x.room < kn) = true := decide_eq_true hgt
    have hgd2 : decide (kn > x.room) = true := decide_eq_true hgt
    clear hE hk hEE hF hw hi ht h hfl HB0
    go_enter Tryz.func73, Tryz.ntmps73
    go_upto_region 4 with fail
    refine wp_region_held_drew (S := JuS w0 m x) (by kernel_rfl) HS0.out (fun hS => ?_)
    clear HS0 c3
    generalize (w0.alloc (.cells (mca m) 40)).drew = W at *
    refine seqRead 0 (v := _) rfl (by kernel_rfl) (by kernel_rfl) (by kernel_rfl) (fun _ _ _ h => h) rfl (fun w hSw => by go_simp <;> with_reducible rfl) hS ?_
    try simp only [Act.put, List.setIfInBounds_toArray, List.set_cons_zero, List.set_cons_succ]
    refine seqRead 2 (v := _) rfl (by kernel_rfl) (by kernel_rfl) (by kernel_rfl) (fun _ _ _ h => h) rfl (fun w hSw => (show (execOp _ _).run _ w = .ok (.value (.agg (mca m))) w from execRow0 rfl w0.heap.size rfl hSw.1 Tryz.underlying40 rfl infoMod)) hS ?_
    try simp only [Act.put, List.setIfInBounds_toArray, List.set_cons_zero, List.set_cons_succ]
    refine seqCall 1 rfl (by kernel_rfl) rfl (fun K hK => ?_)
    go_simp
    refine (un_view x B k HF.out W HU.out HE.out.tab HE.out.lt).mono ?_
    rintro e w1 ⟨vv, Lv, rfl, huv, hov, hw1⟩
    have HUV := Lib.hid huv
    have HOV := Lib.hid hov
    have HU1 := Lib.hid (HU.out.below hw1)
    have HE1 := Lib.hid (HE.out.below hw1)
    have HS1 := Lib.hid (JuS.below hw1 hS)
    have HAP := Lib.hid (apply_at vv Lv (by have := congrArg List.length HUV.out; rw [List.length_map] at this; have := HVL.out; omega) (HVW.out.rl HUV.out) m HWM.out bigI w1 HOV.out.lies (HIM.out.below (HE1.out.kept)) HE1.out.tab HE1.out.lt x.un.view HUV.out EE _ HEE.out rfl)
    refine hK.out _ _ HS1.out (fun hS => ?_)
    clear hK K huv hov hw1
    try simp only [Act.put, List.setIfInBounds_toArray, List.set_cons_zero, List.set_cons_succ]
    refine seqCall 3 rfl (by kernel_rfl) rfl (fun K hK => ?_)
    go_simp
    refine (HAP.out).mono ?_
    rintro e w2 ⟨v2, L2, rfl, hu2, hi2⟩
    have HU2 := Lib.hid (HU1.out.below hi2.2.2)
    have HE2 := Lib.hid (HE1.out.below hi2.2.2)
    have HS2 := Lib.hid (JuS.below hi2.2.2 HS1.out)
    refine hK.out _ _ HS2.out (fun hS => ?_)
    clear hK K hu2 hi2 HAP HU1 HE1 HS1 HOV HUV
    try simp only [Act.put, List.setIfInBounds_toArray, List.set_cons_zero, List.set_cons_succ]
    refine seqRead 4 (v := _) rfl (by kernel_rfl) (by kernel_rfl) (by kernel_rfl) (fun _ _ _ h => h) rfl (fun w hSw => by go_simp <;> with_reducible rfl) hS ?_
    try simp only [Act.put, List.setIfInBounds_toArray, List.set_cons_zero, List.set_cons_succ]
    refine seqRead 5 (v := _) rfl (by kernel_rfl) (by kernel_rfl) (by kernel_rfl) (fun _ _ _ h => h) rfl (fun w hSw => by go_simp <;> with_reducible rfl) hS ?_
    try simp only [Act.put, List.setIfInBounds_toArray, List.set_cons_zero, List.set_cons_succ]
    refine seqRead 6 (v := _) rfl (by kernel_rfl) (by kernel_rfl) (by kernel_rfl) (fun _ _ _ h => h) rfl (fun w hSw => by go_simp <;> with_reducible rfl) hS ?_
    try simp only [Act.put, List.setIfInBounds_toArray, List.set_cons_zero, List.set_cons_succ]
    refine seqRead 7 (v := _) rfl (by kernel_rfl) (by kernel_rfl) (by kernel_rfl) (fun _ _ _ h => h) rfl (fun w hSw => by go_simp <;> with_reducible rfl) hS ?_
    try simp only [Act.put, List.setIfInBounds_toArray, List.set_cons_zero, List.set_cons_succ]
    refine seqRead 8 (v := _) rfl (by kernel_rfl) (by kernel_rfl) (by kernel_rfl) (fun _ _ _ h => h) rfl (fun w hSw => by go_simp <;> with_reducible rfl) hS ?_
    try simp only [Act.put, List.setIfInBounds_toArray, List.set_cons_zero, List.set_cons_succ]
    refine seqDone (by kernel_rfl) ?_
    clear hS
    go_upto_region 7 with fail
    refine wp_region_held_drew (S := JuS w0 m x) (by kernel_rfl) (JuS.below (Below.refl _ _).drew HS2.out) (fun hS => ?_)
    have HU3 := Lib.hid (HU2.out.below (Below.refl _ _).drew)
    have HE3 := Lib.hid (HE2.out.drew)
    clear HS2 HU2 HE2
    have HE2 := HE3
    clear HE3
    generalize w2.drew = W2 at *
    refine seqRead 0 (v := _) rfl (by kernel_rfl) (by kernel_rfl) (by kernel_rfl) (fun _ _ _ h => h) rfl (fun w hSw => by go_simp <;> with_reducible rfl) hS ?_
    try simp only [Act.put, List.setIfInBounds_toArray, List.set_cons_zero, List.set_cons_succ]
    refine seqRead 1 (v := _) rfl (by kernel_rfl) (by kernel_rfl) (by kernel_rfl) (fun _ _ _ h => h) rfl (fun w hSw => (by have hc := hSw.1.cellsM.1; go_simp <;> with_reducible rfl)) hS ?_
    try simp only [Act.put, List.setIfInBounds_toArray, List.set_cons_zero, List.set_cons_succ]
    refine seqRead 2 (v := _) rfl (by kernel_rfl) (by kernel_rfl) (by kernel_rfl) (fun _ _ _ h => h) rfl (fun w hSw => by go_simp <;> with_reducible rfl) hS ?_
    try simp only [Act.put, List.setIfInBounds_toArray, List.set_cons_zero, List.set_cons_succ]
    refine seqRead 3 (v := _) rfl (by kernel_rfl) (by kernel_rfl) (by kernel_rfl) (fun _ _ _ h => h) rfl (fun w hSw => by go_simp <;> with_reducible rfl) hS ?_
    try simp only [Act.put, List.setIfInBounds_toArray, List.set_cons_zero, List.set_cons_succ]
    refine seqRead 4 (v := _) rfl (by kernel_rfl) (by kernel_rfl) (by kernel_rfl) (fun _ _ _ h => h) rfl (fun w hSw => by go_simp <;> with_reducible rfl) hS ?_
    try simp only [Act.put, List.setIfInBounds_toArray, List.set_cons_zero, List.set_cons_succ]
    refine seqRead 5 (v := _) rfl (by kernel_rfl) (by kernel_rfl) (by kernel_rfl) (fun _ _ _ h => h) rfl (fun w hSw => (show (execOp _ _).run _ w = .ok (.value (.agg (mca m))) w from execRow0 rfl w0.heap.size rfl hSw.1 Tryz.underlying40 rfl infoMod)) hS ?_
    try simp only [Act.put, List.setIfInBounds_toArray, List.set_cons_zero, List.set_cons_succ]
    refine seqRead 7 (v := _) rfl (by kernel_rfl) (by kernel_rfl) (by kernel_rfl) (fun _ _ _ h => h) rfl (fun w hSw => by go_simp <;> with_reducible rfl) hS ?_
    try simp only [Act.put, List.setIfInBounds_toArray, List.set_cons_zero, List.set_cons_succ]
    refine seqRead 8 (v := _) rfl (by kernel_rfl) (by kernel_rfl) (by kernel_rfl) (fun _ _ _ h => h) rfl (fun w hSw => by go_simp <;> with_reducible rfl) hS ?_
    try simp only [Act.put, List.setIfInBounds_toArray, List.set_cons_zero, List.set_cons_succ]
    refine seqRead 9 (v := _) rfl (by kernel_rfl) (by kernel_rfl) (by kernel_rfl) (fun _ _ _ h => h) rfl (fun w hSw => by go_simp <;> with_reducible rfl) hS ?_
    try simp only [Act.put, List.setIfInBounds_toArray, List.set_cons_zero, List.set_cons_succ]
    refine seqRead 10 (v := _) rfl (by kernel_rfl) (by kernel_rfl) (by kernel_rfl) (fun _ _ _ h => h) rfl (fun w hSw => (by have hc := hSw.2; go_simp <;> with_reducible rfl)) hS ?_
    try simp only [Act.put, List.setIfInBounds_toArray, List.set_cons_zero, List.set_cons_succ]
    refine seqCall 6 rfl (by kernel_rfl) rfl (fun K hK => ?_)
    go_simp
    refine (un_keys x B k HF.out m W2 HU3.out).mono ?_
    rintro e w3 ⟨rfl, hw3⟩
    have HE3 := Lib.hid (HE2.out.below hw3)
    have HS3 := Lib.hid (JuS.below hw3 hS)
    rw [← HKK.out]
    refine hK.out _ _ HS3.out (fun hS => ?_)
    clear hK K hw3
    try simp only [Act.put, List.setIfInBounds_toArray, List.set_cons_zero, List.set_cons_succ]
    refine seqRead 11 (v := _) rfl (by kernel_rfl) (by kernel_rfl) (by kernel_rfl) (fun _ _ _ h => h) rfl (fun w hSw => by go_simp <;> with_reducible rfl) hS ?_
    try simp only [Act.put, List.setIfInBounds_toArray, List.set_cons_zero, List.set_cons_succ]
    refine seqRead 12 (v := _) rfl (by kernel_rfl) (by kernel_rfl) (by kernel_rfl) (fun _ _ _ h => h) rfl (fun w hSw => by go_simp <;> with_reducible rfl) hS ?_
    try simp only [Act.put, List.setIfInBounds_toArray, List.set_cons_zero, List.set_cons_succ]
    refine seqDone (by kernel_rfl) ?_
    clear hS
    go_wp2_with fail
    go_ret
    exact ⟨rfl, HE3.out.kept⟩
  · rw [if_neg hgt]
    have hgd : decide (x.room < kn) = false := decide_eq_false hgt
    have hgd2 : decide (kn > x.room) = false := decide_eq_false hgt
    clear hE hk hEE hF hw hi ht h hfl HB0
    go_enter Tryz.func73, Tryz.ntmps73
    go_upto_region 4 with fail
    refine wp_region_held_drew (S := JuS w0 m x) (by kernel_rfl) HS0.out (fun hS => ?_)
    clear HS0 c3
    generalize (w0.alloc (.cells (mca m) 40)).drew = W at *
    refine seqRead 0 (v := _) rfl (by kernel_rfl) (by kernel_rfl) (by kernel_rfl) (fun _ _ _ h => h) rfl (fun w hSw => by go_simp <;> with_reducible rfl) hS ?_
    try simp only [Act.put, List.setIfInBounds_toArray, List.set_cons_zero, List.set_cons_succ]
    refine seqRead 2 (v := _) rfl (by kernel_rfl) (by kernel_rfl) (by kernel_rfl) (fun _ _ _ h => h) rfl (fun w hSw => (show (execOp _ _).run _ w = .ok (.value (.agg (mca m))) w from execRow0 rfl w0.heap.size rfl hSw.1 Tryz.underlying40 rfl infoMod)) hS ?_
    try simp only [Act.put, List.setIfInBounds_toArray, List.set_cons_zero, List.set_cons_succ]
    refine seqCall 1 rfl (by kernel_rfl) rfl (fun K hK => ?_)
    go_simp
    refine (un_view x B k HF.out W HU.out HE.out.tab HE.out.lt).mono ?_
    rintro e w1 ⟨vv, Lv, rfl, huv, hov, hw1⟩
    have HUV := Lib.hid huv
    have HOV := Lib.hid hov
    have HU1 := Lib.hid (HU.out.below hw1)
    have HE1 := Lib.hid (HE.out.below hw1)
    have HS1 := Lib.hid (JuS.below hw1 hS)
    have HAP := Lib.hid (apply_at vv Lv (by have := congrArg List.length HUV.out; rw [List.length_map] at this; have := HVL.out; omega) (HVW.out.rl HUV.out) m HWM.out bigI w1 HOV.out.lies (HIM.out.below (HE1.out.kept)) HE1.out.tab HE1.out.lt x.un.view HUV.out EE _ HEE.out rfl)
    refine hK.out _ _ HS1.out (fun hS => ?_)
    clear hK K huv hov hw1
    try simp only [Act.put, List.setIfInBounds_toArray, List.set_cons_zero, List.set_cons_succ]
    refine seqCall 3 rfl (by kernel_rfl) rfl (fun K hK => ?_)
    go_simp
    refine (HAP.out).mono ?_
    rintro e w2 ⟨v2, L2, rfl, hu2, hi2⟩
    have HU2 := Lib.hid (HU1.out.below hi2.2.2)
    have HE2 := Lib.hid (HE1.out.below hi2.2.2)
    have HS2 := Lib.hid (JuS.below hi2.2.2 HS1.out)
    refine hK.out _ _ HS2.out (fun hS => ?_)
    clear hK K hu2 hi2 HAP HU1 HE1 HS1 HOV HUV
    try simp only [Act.put, List.setIfInBounds_toArray, List.set_cons_zero, List.set_cons_succ]
    refine seqRead 4 (v := _) rfl (by kernel_rfl) (by kernel_rfl) (by kernel_rfl) (fun _ _ _ h => h) rfl (fun w hSw => by go_simp <;> with_reducible rfl) hS ?_
    try simp only [Act.put, List.setIfInBounds_toArray, List.set_cons_zero, List.set_cons_succ]
    refine seqRead 5 (v := _) rfl (by kernel_rfl) (by kernel_rfl) (by kernel_rfl) (fun _ _ _ h => h) rfl (fun w hSw => by go_simp <;> with_reducible rfl) hS ?_
    try simp only [Act.put, List.setIfInBounds_toArray, List.set_cons_zero, List.set_cons_succ]
    refine seqRead 6 (v := _) rfl (by kernel_rfl) (by kernel_rfl) (by kernel_rfl) (fun _ _ _ h => h) rfl (fun w hSw => by go_simp <;> with_reducible rfl) hS ?_
    try simp only [Act.put, List.setIfInBounds_toArray, List.set_cons_zero, List.set_cons_succ]
    refine seqRead 7 (v := _) rfl (by kernel_rfl) (by kernel_rfl) (by kernel_rfl) (fun _ _ _ h => h) rfl (fun w hSw => by go_simp <;> with_reducible rfl) hS ?_
    try simp only [Act.put, List.setIfInBounds_toArray, List.set_cons_zero, List.set_cons_succ]
    refine seqRead 8 (v := _) rfl (by kernel_rfl) (by kernel_rfl) (by kernel_rfl) (fun _ _ _ h => h) rfl (fun w hSw => by go_simp <;> with_reducible rfl) hS ?_
    try simp only [Act.put, List.setIfInBounds_toArray, List.set_cons_zero, List.set_cons_succ]
    refine seqDone (by kernel_rfl) ?_
    clear hS
    go_upto_region 7 with fail
    refine wp_region_held_drew (S := JuS w0 m x) (by kernel_rfl) (JuS.below (Below.refl _ _).drew HS2.out) (fun hS => ?_)
    have HU3 := Lib.hid (HU2.out.below (Below.refl _ _).drew)
    have HE3 := Lib.hid (HE2.out.drew)
    clear HS2 HU2 HE2
    have HE2 := HE3
    clear HE3
    generalize w2.drew = W2 at *
    refine seqRead 0 (v := _) rfl (by kernel_rfl) (by kernel_rfl) (by kernel_rfl) (fun _ _ _ h => h) rfl (fun w hSw => by go_simp <;> with_reducible rfl) hS ?_
    try simp only [Act.put, List.setIfInBounds_toArray, List.set_cons_zero, List.set_cons_succ]
    refine seqRead 1 (v := _) rfl (by kernel_rfl) (by kernel_rfl) (by kernel_rfl) (fun _ _ _ h => h) rfl (fun w hSw => (by have hc := hSw.1.cellsM.1; go_simp <;> with_reducible rfl)) hS ?_
    try simp only [Act.put, List.setIfInBounds_toArray, List.set_cons_zero, List.set_cons_succ]
    refine seqRead 2 (v := _) rfl (by kernel_rfl) (by kernel_rfl) (by kernel_rfl) (fun _ _ _ h => h) rfl (fun w hSw => by go_simp <;> with_reducible rfl) hS ?_
    try simp only [Act.put, List.setIfInBounds_toArray, List.set_cons_zero, List.set_cons_succ]
    refine seqRead 3 (v := _) rfl (by kernel_rfl) (by kernel_rfl) (by kernel_rfl) (fun _ _ _ h => h) rfl (fun w hSw => by go_simp <;> with_reducible rfl) hS ?_
    try simp only [Act.put, List.setIfInBounds_toArray, List.set_cons_zero, List.set_cons_succ]
    refine seqRead 4 (v := _) rfl (by kernel_rfl) (by kernel_rfl) (by kernel_rfl) (fun _ _ _ h => h) rfl (fun w hSw => by go_simp <;> with_reducible rfl) hS ?_
    try simp only [Act.put, List.setIfInBounds_toArray, List.set_cons_zero, List.set_cons_succ]
    refine seqRead 5 (v := _) rfl (by kernel_rfl) (by kernel_rfl) (by kernel_rfl) (fun _ _ _ h => h) rfl (fun w hSw => (show (execOp _ _).run _ w = .ok (.value (.agg (mca m))) w from execRow0 rfl w0.heap.size rfl hSw.1 Tryz.underlying40 rfl infoMod)) hS ?_
    try simp only [Act.put, List.setIfInBounds_toArray, List.set_cons_zero, List.set_cons_succ]
    refine seqRead 7 (v := _) rfl (by kernel_rfl) (by kernel_rfl) (by kernel_rfl) (fun _ _ _ h => h) rfl (fun w hSw => by go_simp <;> with_reducible rfl) hS ?_
    try simp only [Act.put, List.setIfInBounds_toArray, List.set_cons_zero, List.set_cons_succ]
    refine seqRead 8 (v := _) rfl (by kernel_rfl) (by kernel_rfl) (by kernel_rfl) (fun _ _ _ h => h) rfl (fun w hSw => by go_simp <;> with_reducible rfl) hS ?_
    try simp only [Act.put, List.setIfInBounds_toArray, List.set_cons_zero, List.set_cons_succ]
    refine seqRead 9 (v := _) rfl (by kernel_rfl) (by kernel_rfl) (by kernel_rfl) (fun _ _ _ h => h) rfl (fun w hSw => by go_simp <;> with_reducible rfl) hS ?_
    try simp only [Act.put, List.setIfInBounds_toArray, List.set_cons_zero, List.set_cons_succ]
    refine seqRead 10 (v := _) rfl (by kernel_rfl) (by kernel_rfl) (by kernel_rfl) (fun _ _ _ h => h) rfl (fun w hSw => (by have hc := hSw.2; go_simp <;> with_reducible rfl)) hS ?_
    try simp only [Act.put, List.setIfInBounds_toArray, List.set_cons_zero, List.set_cons_succ]
    refine seqCall 6 rfl (by kernel_rfl) rfl (fun K hK => ?_)
    go_simp
    refine (un_keys x B k HF.out m W2 HU3.out).mono ?_
    rintro e w3 ⟨rfl, hw3⟩
    have HE3 := Lib.hid (HE2.out.below hw3)
    have HS3 := Lib.hid (JuS.below hw3 hS)
    rw [← HKK.out]
    refine hK.out _ _ HS3.out (fun hS => ?_)
    clear hK K hw3
    try simp only [Act.put, List.setIfInBounds_toArray, List.set_cons_zero, List.set_cons_succ]
    refine seqRead 11 (v := _) rfl (by kernel_rfl) (by kernel_rfl) (by kernel_rfl) (fun _ _ _ h => h) rfl (fun w hSw => by go_simp <;> with_reducible rfl) hS ?_
    try simp only [Act.put, List.setIfInBounds_toArray, List.set_cons_zero, List.set_cons_succ]
    refine seqRead 12 (v := _) rfl (by kernel_rfl) (by kernel_rfl) (by kernel_rfl) (fun _ _ _ h => h) rfl (fun w hSw => by go_simp <;> with_reducible rfl) hS ?_
    try simp only [Act.put, List.setIfInBounds_toArray, List.set_cons_zero, List.set_cons_succ]
    refine seqDone (by kernel_rfl) ?_
    clear hS
    go_wp2_with fail
    go_ret
    exact ⟨rfl, HE3.out.kept⟩
theorem judE_add {room : Int} {us : List Ru} {o : List Tx} {m : Mu} (h0 : applyE (viewO us o) m bigI = 0) (hk : m.kind = 1) : judE room us o m = if room < ((keysU us (chgO o ++ [m])).length : Int) then 3 else 0 := by
  unfold judE
  rw [h0, if_neg (by decide)]
  by_cases hg : room < ((keysU us (chgO o ++ [m])).length : Int)
  · rw [if_pos hg, if_pos ⟨hk, hg⟩]
  · rw [if_neg hg, if_neg fun q => hg q.2]
theorem judE_oth {room : Int} {us : List Ru} {o : List Tx} {m : Mu} (h0 : applyE (viewO us o) m bigI = 0) (hk : m.kind ≠ 1) : judE room us o m = 0 := by
  unfold judE
  rw [h0, if_neg (by decide), if_neg fun q => hk q.1]
theorem judE_no {room : Int} {us : List Ru} {o : List Tx} {m : Mu} (h0 : applyE (viewO us o) m bigI ≠ 0) : judE room us o m = applyE (viewO us o) m bigI := by
  unfold judE
  rw [if_pos h0]
/-- what fault gives -/
def JudRet (x : Um) (B : Nat) (m : Mm) (w : World) (e : Ending) (w' : World) : Prop :=
  e = .returned (.int .i64 (if x.fail then 16 else judE x.room x.un.base x.un.opn m.u)) ∧ UniA B ⟨x.p, x.room, x.vb, x.L, x.vo, x.ts, false⟩ w' ∧ UFr x ⟨x.p, x.room, x.vb, x.L, x.vo, x.ts, false⟩ w w'
theorem infoBool : (Tryz.prog.info? 4).map (·.size) = some 1 := by kernel_rfl
theorem un_fault (x : Um) (B k : Nat) (hF : FitM k x) (m : Mm) (hw : WfM m.u) (w0 : World) (h : UniA B x w0) (hi : InM m w0) (ht : Tab w0) (hz : 0 < w0.heap.size) :
    Calls Tryz.prog 73 #[.pointer (some ⟨x.p, 0, none⟩), .agg (mca m)] w0 (JudRet x B m w0) := by
  cases hfl : x.fail
  · have hx : x = ⟨x.p, x.room, x.vb, x.L, x.vo, x.ts, false⟩ := by rw [← hfl]
    have key : ∀ e w', (e = .returned (.int .i64 (judE x.room x.un.base x.un.opn m.u)) ∧ Below w0.heap.size w0 w') → JudRet x B m w0 e w' := fun e w' ⟨e1, hb⟩ => by
      refine ⟨by rw [hfl]; exact e1, ?_, ?_⟩
      · rw [← hx]; exact h.below hb
      · rw [← hx]; exact UFr.of x hb
    by_cases h0 : applyE x.un.view m.u bigI = 0
    · by_cases hk : m.u.kind = 1
      · exact (un_jud_add x B k hF m hw w0 h hi ht hz hfl h0 hk).mono fun e w' hr => key e w' ⟨by rw [judE_add h0 hk]; exact hr.1, hr.2⟩
      · exact (un_jud_oth x B k hF m hw w0 h hi ht hz hfl h0 hk).mono fun e w' hr => key e w' ⟨by rw [judE_oth h0 hk]; exact hr.1, hr.2⟩
    · exact (un_jud_no x B k hF m hw w0 h hi ht hz hfl _ rfl h0).mono fun e w' hr => key e w' ⟨by rw [judE_no h0]; exact hr.1, hr.2⟩
  · have HB0 := Lib.hid (below1 w0 (.cells (mca m) 40))
    have HU0 := Lib.hid (h.below HB0.out)
    have c3 : (w0.alloc (.cells (mca m) 40)).cell? ⟨x.p, 3, none⟩ = some (.bool true) := by rw [← hfl]; exact HU0.out.fail_
    have HTH := Lib.hid (show (w0.alloc (.cells (mca m) 40)).there x.p 3 1 from HU0.out.box.there (by show 4 ≤ 4; decide))
    have HFL := Lib.hid hfl
    clear h hi ht hfl hF hw
    go_enter Tryz.func73, Tryz.ntmps73
    go_wp2_with (refine storeCell rfl 4 _ _ rfl x.p 3 (.bool false) rfl rfl rfl HTH.out infoBool ?_; refine Hid.out ?_)
    have HFW := Lib.hid (Fr.cell (w0.alloc (.cells (mca m) 40)) ⟨x.p, 3, none⟩ (.bool false) (M := [x.p]) (by simp))
    have HX := Lib.hid (show UniA B ⟨x.p, x.room, x.vb, x.L, x.vo, x.ts, false⟩ ((w0.alloc (.cells (mca m) 40)).setCell ⟨x.p, 3, none⟩ (.bool false)) from
      UniA.wrote (p := x.p) HU0.out.boxU rfl (HU0.out.box.one (k := 3) (.bool false)) HFW.out HU0.out.base HU0.out.opn HU0.out.txs HU0.out.nod)
    have HUF := Lib.hid (show UFr x ⟨x.p, x.room, x.vb, x.L, x.vo, x.ts, false⟩ w0 ((w0.alloc (.cells (mca m) 40)).setCell ⟨x.p, 3, none⟩ (.bool false)) from
      ⟨(Fr.of HB0.out).tr (HFW.out.mono fun g hg => .inl (by
        simp only [List.mem_cons, List.not_mem_nil, or_false] at hg
        subst hg
        simp [Um.muts])), fun g hg => .inl hg⟩)
    clear HTH HFW HU0 c3 HB0
    generalize (w0.alloc (.cells (mca m) 40)).setCell ⟨x.p, 3, none⟩ (.bool false) = w1 at *
    refine Lib.hid ?_
    go_wp2_with fail
    go_ret
    exact ⟨by rw [HFL.out]; rfl, HX.out, HUF.out⟩
end Go.Proofs.YtomnpfbebimpkaaGreatDoor
