/-
  The walk of the law ModsGone.
-/
import Derived.Test.YtghfohglnbenaaaDoorModLaw
namespace Go.Proofs.YtghfohglnbenaaaDoor
open Go.RowKit

/-- how many rules a change touches -/
theorem touch_none {m : Mm} {l L : List Rm} (hs : sndM m.u = true) (hk : m.u.kind = 3 ∨ m.u.kind = 5) (hu : L.map (·.u) = applyL (l.map (·.u)) m.u) :
    (hits (tcS m) L L.length).length = 0 ∧ L.length + (hits (tcS m) l l.length).length = l.length := by
  have key : ∀ K : List Rm, (hits (tcS m) K K.length).length = ((K.map (·.u)).filter (tchB m.u)).length := fun K => by
    rw [hits_count, List.filter_map, List.length_map]
    congr 1
    refine List.filter_congr fun x _ => ?_
    unfold tcS
    rw [hs, Bool.true_and]
    rfl
  obtain ⟨g1, g2⟩ := apply_gone (us := l.map (·.u)) hk
  rw [key, key, len_map hu, hu, g1]
  simp only [List.length_map] at g2
  exact ⟨rfl, g2⟩
set_option maxRecDepth 100000 in
set_option maxHeartbeats 2000000 in
theorem modsGone_any (v : Value) (l : List Rm) (hw : WfRL l) (hlen : l.length ≤ 140737488355328) (m : Mm) (hm : WfM m.u) (w0 : World) (hl : RLies v l w0) (ha : InM m w0) (ht : Tab w0) (hz : 0 < w0.heap.size) :
    Calls Tryd.prog 9 #[v, .agg (mca m)] w0 fun e w' => e = .returned (.bool true) ∧ Below w0.heap.size w0 w' := by
  obtain ⟨p, cap, rfl⟩ := hl.1.form
  have HS := Lib.hid (show ApS w0 (.slice p l.length cap) l m (w0.alloc (.cells (mca m) 30)) from ⟨hl.below (below1 _ _), ha.below (below1 _ _), Blk.new _ _ _, (Env.start ht hz).alloc _⟩)
  have HA := Lib.hid (fun (W : World) (hS : Env w0 W) => manswers W hS.tab hS.lt)
  have HW := Lib.hid hw
  have HM := Lib.hid hm
  have k26 := HS.out.2.2.1.cellsM.2.2.2.1
  have k0 := HS.out.2.2.1.cellsM.1
  clear ht hl hw ha hm
  by_cases hn : 40 < l.length
  · have hnI : (40 : Int) < (l.length : Int) := by omega
    go_enter Tryd.func9, Tryd.ntmps9
    go_wp2_with (go_at_call 12; refine (HA.out _ HS.out.2.2.2).mono ?_; rintro e w1 ⟨rfl, hw1⟩)
    go_ret
    exact ⟨rfl, (HS.out.2.2.2.below hw1).kept⟩
  have hnI : ¬ (40 : Int) < (l.length : Int) := by omega
  by_cases hk : 20 < m.n
  · have hkI : (20 : Int) < (m.n : Int) := by omega
    go_enter Tryd.func9, Tryd.ntmps9
    go_wp2_with (go_at_call 12; refine (HA.out _ HS.out.2.2.2).mono ?_; rintro e w1 ⟨rfl, hw1⟩)
    go_ret
    exact ⟨rfl, (HS.out.2.2.2.below hw1).kept⟩
  have hkI : ¬ (20 : Int) < (m.n : Int) := by omega
  by_cases hkd : m.u.kind = 3 ∨ m.u.kind = 5
  case neg =>
    have h3 : m.u.kind ≠ 3 := fun e => hkd (.inl e)
    have h5 : m.u.kind ≠ 5 := fun e => hkd (.inr e)
    have h3d := eq_false0 h3
    have h5d := eq_false0 h5
    have h3n := neT h3
    have h5n := neT h5
    go_enter Tryd.func9, Tryd.ntmps9
    go_wp2_with (go_at_call 12; refine (HA.out _ HS.out.2.2.2).mono ?_; rintro e w1 ⟨rfl, hw1⟩)
    go_ret
    exact ⟨rfl, (HS.out.2.2.2.below hw1).kept⟩
  have RM := Lib.hid HS.out.2.2.1
  have HKD := Lib.hid hkd
  by_cases he : applyE (l.map (·.u)) m.u 0 = 0
  · by_cases h3 : m.u.kind = 3
    · have h3d := eq_true0 h3
      have h3n := neF h3
      have HP := Lib.hid (apply_at _ l (by omega) HW.out m HM.out 0 _ HS.out.1 HS.out.2.1 HS.out.2.2.2.tab HS.out.2.2.2.lt _ rfl 0 _ he (appV_ok he))
      have HSn := Lib.hid (apply_ok he).2
      clear he
      go_enter Tryd.func9, Tryd.ntmps9
      go_upto_region 4 with (first
        | (refine wpList_load_row rfl 30 _ rfl w0.heap.size rfl 30 (mca m) (0, 0) _ RM.out Tryd.underlying30 rfl infoM ?_)
        | (go_at_call 13; refine HP.out.mono ?_; rintro e w1 ⟨v1, L1, rfl, hu1, hi1⟩; refine Hid.out ?_))
      have HS1 := Lib.hid (ApS.below hi1.2.2 HS.out)
      have HW1 := Lib.hid (wf_app HW.out HM.out hu1)
      have hlen1 := len_app (n := 40) (by omega) hu1
      obtain ⟨tz, tc⟩ := touch_none HSn.out HKD.out hu1
      have HTZ := Lib.hid tz
      have HTC := Lib.hid tc
      obtain ⟨p1, cap1, rfl⟩ := hi1.lies.1.form
      have HI1 := Lib.hid hi1.lies
      clear hi1 hu1 k26 k0 HS HP RM tz tc
      refine Lib.hid ?_
      go_upto_region 6 with fail
      go_wp2_with (go_at_call 12; refine (HA.out _ HS1.out.2.2.2).mono ?_; rintro e w2 ⟨rfl, hw2⟩; refine Hid.out ?_)
      have HS2 := Lib.hid (ApS.below hw2 HS1.out)
      have RM2 := Lib.hid HS2.out.2.2.1
      have HT2 := Lib.hid (touched_any _ L1 (by omega) HW1.out m HM.out w2 (HI1.out.below hw2).1 HS2.out.2.1 HS2.out.2.2.2.tab HS2.out.2.2.2.lt)
      clear hw2 HS1 HI1
      refine Lib.hid ?_
      go_wp2_with (first
        | (refine loadRowG rfl 30 _ rfl w0.heap.size rfl 30 (mca m) (0, 0) RM2.out Tryd.underlying30 rfl infoM ?_)
        | (go_at_call 20; refine HT2.out.mono ?_; rintro e w3 ⟨v3, rfl, ho3, hw3⟩; refine Hid.out ?_))
      obtain ⟨p3, cap3, rfl⟩ := (ho3.lies okI).form
      rw [HTZ.out]
      have HS3 := Lib.hid (ApS.below hw3 HS2.out)
      have RM3 := Lib.hid HS3.out.2.2.1
      have HT3 := Lib.hid (touched_any _ l (by omega) HW.out m HM.out w3 HS3.out.1.1 HS3.out.2.1 HS3.out.2.2.2.tab HS3.out.2.2.2.lt)
      clear hw3 HS2 HT2 RM2 ho3
      refine Lib.hid ?_
      go_wp2_with (first
        | (refine loadRowG rfl 30 _ rfl w0.heap.size rfl 30 (mca m) (0, 0) RM3.out Tryd.underlying30 rfl infoM ?_)
        | (go_at_call 20; refine HT3.out.mono ?_; rintro e w4 ⟨v4, rfl, ho4, hw4⟩; refine Hid.out ?_))
      obtain ⟨p4, cap4, rfl⟩ := (ho4.lies okI).form
      have HB4 := Lib.hid (HS3.out.2.2.2.below hw4).kept
      have hsum : (L1.length : Int) + ((hits (tcS m) l l.length).length : Int) = (l.length : Int) := by have := HTC.out; omega
      clear hw4 HS3 HT3 RM3 ho4
      generalize (hits (tcS m) l l.length).length = n4 at *
      refine Lib.hid ?_
      go_wp2_with fail
      go_ret
      exact ⟨ret_bool (by simp), HB4.out⟩
    · have h5 : m.u.kind = 5 := HKD.out.resolve_left h3
      have h5d := eq_true0 h5
      have h3d := eq_false0 h3
      have h3n := neT h3
      have h5n := neF h5
      have HP := Lib.hid (apply_at _ l (by omega) HW.out m HM.out 0 _ HS.out.1 HS.out.2.1 HS.out.2.2.2.tab HS.out.2.2.2.lt _ rfl 0 _ he (appV_ok he))
      have HSn := Lib.hid (apply_ok he).2
      clear he
      go_enter Tryd.func9, Tryd.ntmps9
      go_upto_region 4 with (first
        | (refine wpList_load_row rfl 30 _ rfl w0.heap.size rfl 30 (mca m) (0, 0) _ RM.out Tryd.underlying30 rfl infoM ?_)
        | (go_at_call 13; refine HP.out.mono ?_; rintro e w1 ⟨v1, L1, rfl, hu1, hi1⟩; refine Hid.out ?_))
      have HS1 := Lib.hid (ApS.below hi1.2.2 HS.out)
      have HW1 := Lib.hid (wf_app HW.out HM.out hu1)
      have hlen1 := len_app (n := 40) (by omega) hu1
      obtain ⟨tz, tc⟩ := touch_none HSn.out HKD.out hu1
      have HTZ := Lib.hid tz
      have HTC := Lib.hid tc
      obtain ⟨p1, cap1, rfl⟩ := hi1.lies.1.form
      have HI1 := Lib.hid hi1.lies
      clear hi1 hu1 k26 k0 HS HP RM tz tc
      refine Lib.hid ?_
      go_upto_region 6 with fail
      go_wp2_with (go_at_call 12; refine (HA.out _ HS1.out.2.2.2).mono ?_; rintro e w2 ⟨rfl, hw2⟩; refine Hid.out ?_)
      have HS2 := Lib.hid (ApS.below hw2 HS1.out)
      have RM2 := Lib.hid HS2.out.2.2.1
      have HT2 := Lib.hid (touched_any _ L1 (by omega) HW1.out m HM.out w2 (HI1.out.below hw2).1 HS2.out.2.1 HS2.out.2.2.2.tab HS2.out.2.2.2.lt)
      clear hw2 HS1 HI1
      refine Lib.hid ?_
      go_wp2_with (first
        | (refine loadRowG rfl 30 _ rfl w0.heap.size rfl 30 (mca m) (0, 0) RM2.out Tryd.underlying30 rfl infoM ?_)
        | (go_at_call 20; refine HT2.out.mono ?_; rintro e w3 ⟨v3, rfl, ho3, hw3⟩; refine Hid.out ?_))
      obtain ⟨p3, cap3, rfl⟩ := (ho3.lies okI).form
      rw [HTZ.out]
      have HS3 := Lib.hid (ApS.below hw3 HS2.out)
      have RM3 := Lib.hid HS3.out.2.2.1
      have HT3 := Lib.hid (touched_any _ l (by omega) HW.out m HM.out w3 HS3.out.1.1 HS3.out.2.1 HS3.out.2.2.2.tab HS3.out.2.2.2.lt)
      clear hw3 HS2 HT2 RM2 ho3
      refine Lib.hid ?_
      go_wp2_with (first
        | (refine loadRowG rfl 30 _ rfl w0.heap.size rfl 30 (mca m) (0, 0) RM3.out Tryd.underlying30 rfl infoM ?_)
        | (go_at_call 20; refine HT3.out.mono ?_; rintro e w4 ⟨v4, rfl, ho4, hw4⟩; refine Hid.out ?_))
      obtain ⟨p4, cap4, rfl⟩ := (ho4.lies okI).form
      have HB4 := Lib.hid (HS3.out.2.2.2.below hw4).kept
      have hsum : (L1.length : Int) + ((hits (tcS m) l l.length).length : Int) = (l.length : Int) := by have := HTC.out; omega
      clear hw4 HS3 HT3 RM3 ho4
      generalize (hits (tcS m) l l.length).length = n4 at *
      refine Lib.hid ?_
      go_wp2_with fail
      go_ret
      exact ⟨ret_bool (by simp), HB4.out⟩
  · by_cases h3 : m.u.kind = 3
    · have h3d := eq_true0 h3
      have h3n := neF h3
      have HP := Lib.hid (apply_at _ l (by omega) HW.out m HM.out 0 _ HS.out.1 HS.out.2.1 HS.out.2.2.2.tab HS.out.2.2.2.lt _ rfl _ _ rfl (appV_no he))
      generalize applyE (l.map (·.u)) m.u 0 = k at *
      have hed := eq_false0 he
      have hed2 := neq_true he
      go_enter Tryd.func9, Tryd.ntmps9
      go_upto_region 4 with (first
        | (refine wpList_load_row rfl 30 _ rfl w0.heap.size rfl 30 (mca m) (0, 0) _ RM.out Tryd.underlying30 rfl infoM ?_)
        | (go_at_call 13; refine HP.out.mono ?_; rintro e w1 ⟨v1, L1, rfl, hu1, hi1⟩; refine Hid.out ?_))
      have HS1 := Lib.hid (ApS.below hi1.2.2 HS.out)
      clear hi1 hu1 k26 k0 HS HP RM
      refine Lib.hid ?_
      go_wp2_with (go_at_call 12; refine (HA.out _ HS1.out.2.2.2).mono ?_; rintro e w2 ⟨rfl, hw2⟩)
      go_ret
      exact ⟨rfl, (HS1.out.2.2.2.below hw2).kept⟩
    · have h5 : m.u.kind = 5 := HKD.out.resolve_left h3
      have h5d := eq_true0 h5
      have h3d := eq_false0 h3
      have h3n := neT h3
      have h5n := neF h5
      have HP := Lib.hid (apply_at _ l (by omega) HW.out m HM.out 0 _ HS.out.1 HS.out.2.1 HS.out.2.2.2.tab HS.out.2.2.2.lt _ rfl _ _ rfl (appV_no he))
      generalize applyE (l.map (·.u)) m.u 0 = k at *
      have hed := eq_false0 he
      have hed2 := neq_true he
      go_enter Tryd.func9, Tryd.ntmps9
      go_upto_region 4 with (first
        | (refine wpList_load_row rfl 30 _ rfl w0.heap.size rfl 30 (mca m) (0, 0) _ RM.out Tryd.underlying30 rfl infoM ?_)
        | (go_at_call 13; refine HP.out.mono ?_; rintro e w1 ⟨v1, L1, rfl, hu1, hi1⟩; refine Hid.out ?_))
      have HS1 := Lib.hid (ApS.below hi1.2.2 HS.out)
      clear hi1 hu1 k26 k0 HS HP RM
      refine Lib.hid ?_
      go_wp2_with (go_at_call 12; refine (HA.out _ HS1.out.2.2.2).mono ?_; rintro e w2 ⟨rfl, hw2⟩)
      go_ret
      exact ⟨rfl, (HS1.out.2.2.2.below hw2).kept⟩
end Go.Proofs.YtghfohglnbenaaaDoor
