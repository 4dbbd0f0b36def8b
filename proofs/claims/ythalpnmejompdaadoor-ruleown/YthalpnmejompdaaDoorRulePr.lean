/-
  The walks of Sound, Key, Before and Overlap of two rules, the program's and the reference's.
-/
import Derived.Test.YthalpnmejompdaaDoorRuleVal
import Derived.Test.YthalpnmejompdaaDoorPackRef
namespace Go.Proofs.YthalpnmejompdaaDoor
open Go.RowKit

theorem upTo_any (n m : Int) (w : World) : Calls Tryd.prog 31 #[.int .i64 n, .int .i64 m] w fun e w' => e = .returned (.bool (upB n m)) ∧ w' = w := by
  unfold upB
  by_cases h : 0 ≤ n
  · have hd : decide (0 ≤ n) = true := decide_eq_true h
    rw [hd, Bool.true_and]
    go_enter Tryd.func31, Tryd.ntmps31
    go_wp2
    go_ret
    exact ⟨rfl, rfl⟩
  · have hd : decide (0 ≤ n) = false := decide_eq_false h
    rw [hd, Bool.false_and]
    go_enter Tryd.func31, Tryd.ntmps31
    go_wp2
    go_ret
    exact ⟨rfl, rfl⟩
theorem span_any (n m : Int) (w : World) : Calls Tryd.prog 34 #[.int .i64 n, .int .i64 m] w fun e w' => e = .returned (.bool (upB n m)) ∧ w' = w := by
  unfold upB
  by_cases h : 0 ≤ n
  · have hd : decide (0 ≤ n) = true := decide_eq_true h
    rw [hd, Bool.true_and]
    go_enter Tryd.func34, Tryd.ntmps34
    go_wp2
    go_ret
    exact ⟨rfl, rfl⟩
  · have hd : decide (0 ≤ n) = false := decide_eq_false h
    rw [hd, Bool.false_and]
    go_enter Tryd.func34, Tryd.ntmps34
    go_wp2
    go_ret
    exact ⟨rfl, rfl⟩
set_option maxHeartbeats 1000000 in
set_option maxRecDepth 100000 in
theorem rsound_any (r : Rm) (hw : WfR r.u) (w : World) (ha : InA r w) (ht : Tab w) (hz : 0 < w.heap.size) :
    Calls Tryd.prog 11 #[.agg (rca r)] w fun e w' => e = .returned (.bool (sndR r.u)) ∧ Below w.heap.size w w' := by
  have R0 := Lib.hid (Blk.new w (rca r) 29)
  have HE := Lib.hid ((Env.start ht hz).alloc (.cells (rca r) 29))
  have HC := Lib.hid (csound_any r.u.m hw.m0 _ HE.out.tab HE.out.lt)
  have HA := Lib.hid (fun (W : World) (hb : Env w W) => asound_any (.slice r.q r.n r.c) r.u.acts hw.len hw.a W (ha.below hb.kept) hb.tab hb.lt)
  have M0 := Lib.hid R0.out.cellsR.1
  obtain ⟨y, hy⟩ : ∃ y, y = sndR r.u := ⟨_, rfl⟩
  rw [← hy]
  unfold sndR at hy
  have HY := Lib.hid hy
  clear ht ha hw hy
  cases hc : csnd r.u.m
  · rw [hc] at HC
    go_enter Tryd.func11, Tryd.ntmps11
    go_wp2_with (first
      | (refine wpList_load_mid rfl 26 _ rfl w.heap.size 0 rfl (cl r.u.m) _ M0.out Tryd.underlying26 rfl infoCube ?_)
      | (go_at_call 29; refine HC.out.mono ?_; rintro e w1 ⟨rfl, hw1⟩))
    go_ret
    exact ⟨ret_bool (by rw [HY.out, hc]; rfl), (HE.out.below hw1).kept⟩
  · rw [hc] at HC
    go_enter Tryd.func11, Tryd.ntmps11
    go_wp2_with (first
      | (refine wpList_load_mid rfl 26 _ rfl w.heap.size 0 rfl (cl r.u.m) _ M0.out Tryd.underlying26 rfl infoCube ?_)
      | (go_at_call 29; refine HC.out.mono ?_; rintro e w1 ⟨rfl, hw1⟩; refine Hid.out ?_))
    have R1 := Lib.hid (R0.out.below hw1)
    have HE1 := Lib.hid (HE.out.below hw1)
    have HA1 := Lib.hid (HA.out w1 HE1.out)
    clear hw1 HC R0 HE HA M0
    obtain ⟨_, _, k25, _⟩ := R1.out.cellsR
    cases hs : sndAL r.u.acts
    · rw [hs] at HA1
      refine Lib.hid ?_
      go_wp2_with (go_at_call 30; refine HA1.out.mono ?_; rintro e w2 ⟨rfl, hw2⟩)
      go_ret
      exact ⟨ret_bool (by rw [HY.out, hc, hs]; rfl), (HE1.out.below hw2).kept⟩
    · rw [hs] at HA1
      refine Lib.hid ?_
      go_wp2_with (go_at_call 30; refine HA1.out.mono ?_; rintro e w2 ⟨rfl, hw2⟩; refine Hid.out ?_)
      have R2 := Lib.hid (R1.out.below hw2)
      have HE2 := Lib.hid (HE1.out.below hw2)
      clear hw2 HA1 R1 HE1 k25
      obtain ⟨_, k24, _, k26, k27, k28, k29, k30, k31⟩ := R2.out.cellsR
      refine Lib.hid ?_
      cases h1 : upB r.u.p 65535
      · go_wp2_with (go_at_call 31; refine (upTo_any _ _ _).mono ?_; rintro e w3 ⟨rfl, rfl⟩)
        go_ret
        exact ⟨ret_bool (by rw [HY.out, hc, hs, h1]; rfl), HE2.out.kept⟩
      · skip
        cases h2 : upB r.u.idle 1048576
        · go_wp2_with (go_at_call 31; refine (upTo_any _ _ _).mono ?_; rintro e w3 ⟨rfl, rfl⟩)
          go_ret
          exact ⟨ret_bool (by rw [HY.out, hc, hs, h1, h2]; rfl), HE2.out.kept⟩
        · skip
          cases h3 : upB r.u.hard 1048576
          · go_wp2_with (go_at_call 31; refine (upTo_any _ _ _).mono ?_; rintro e w3 ⟨rfl, rfl⟩)
            go_ret
            exact ⟨ret_bool (by rw [HY.out, hc, hs, h1, h2, h3]; rfl), HE2.out.kept⟩
          · skip
            cases h4 : upB r.u.owner 255
            · go_wp2_with (go_at_call 31; refine (upTo_any _ _ _).mono ?_; rintro e w3 ⟨rfl, rfl⟩)
              go_ret
              exact ⟨ret_bool (by rw [HY.out, hc, hs, h1, h2, h3, h4]; rfl), HE2.out.kept⟩
            · skip
              by_cases h5 : 0 ≤ r.u.hits
              rotate_left
              · have h5d : decide (0 ≤ r.u.hits) = false := decide_eq_false h5
                go_wp2_with (go_at_call 31; refine (upTo_any _ _ _).mono ?_; rintro e w3 ⟨rfl, rfl⟩)
                go_ret
                exact ⟨ret_bool (by rw [HY.out, hc, hs, h1, h2, h3, h4, h5d]; rfl), HE2.out.kept⟩
              have h5d : decide (0 ≤ r.u.hits) = true := decide_eq_true h5
              by_cases h6 : 0 ≤ r.u.quiet
              rotate_left
              · have h6d : decide (0 ≤ r.u.quiet) = false := decide_eq_false h6
                go_wp2_with (go_at_call 31; refine (upTo_any _ _ _).mono ?_; rintro e w3 ⟨rfl, rfl⟩)
                go_ret
                exact ⟨ret_bool (by rw [HY.out, hc, hs, h1, h2, h3, h4, h5d, h6d]; rfl), HE2.out.kept⟩
              have h6d : decide (0 ≤ r.u.quiet) = true := decide_eq_true h6
              by_cases h7 : 0 ≤ r.u.age
              rotate_left
              · have h7d : decide (0 ≤ r.u.age) = false := decide_eq_false h7
                go_wp2_with (go_at_call 31; refine (upTo_any _ _ _).mono ?_; rintro e w3 ⟨rfl, rfl⟩)
                go_ret
                exact ⟨ret_bool (by rw [HY.out, hc, hs, h1, h2, h3, h4, h5d, h6d, h7d]; rfl), HE2.out.kept⟩
              have h7d : decide (0 ≤ r.u.age) = true := decide_eq_true h7
              go_wp2_with (go_at_call 31; refine (upTo_any _ _ _).mono ?_; rintro e w3 ⟨rfl, rfl⟩)
              go_ret
              exact ⟨ret_bool (by rw [HY.out, hc, hs, h1, h2, h3, h4, h5d, h6d, h7d]; rfl), HE2.out.kept⟩
set_option maxHeartbeats 1000000 in
set_option maxRecDepth 100000 in
theorem rrule_any (r : Rm) (hw : WfR r.u) (w : World) (ha : InA r w) (ht : Tab w) (hz : 0 < w.heap.size) :
    Calls Tryd.prog 12 #[.agg (rca r)] w fun e w' => e = .returned (.bool (sndR r.u)) ∧ Below w.heap.size w w' := by
  have R0 := Lib.hid (Blk.new w (rca r) 29)
  have HE := Lib.hid ((Env.start ht hz).alloc (.cells (rca r) 29))
  have HC := Lib.hid (rcube_any r.u.m hw.m (w.alloc (.cells (rca r) 29)))
  have HA := Lib.hid (fun (W : World) (hb : Env w W) => racts_any (.slice r.q r.n r.c) r.u.acts hw.len hw.a W (ha.below hb.kept))
  have M0 := Lib.hid R0.out.cellsR.1
  obtain ⟨y, hy⟩ : ∃ y, y = sndR r.u := ⟨_, rfl⟩
  rw [← hy]
  unfold sndR at hy
  have HY := Lib.hid hy
  clear ht ha hw hy
  cases hc : csnd r.u.m
  · rw [hc] at HC
    go_enter Tryd.func12, Tryd.ntmps12
    go_wp2_with (first
      | (refine wpList_load_mid rfl 26 _ rfl w.heap.size 0 rfl (cl r.u.m) _ M0.out Tryd.underlying26 rfl infoCube ?_)
      | (go_at_call 32; refine HC.out.mono ?_; rintro e w1 ⟨rfl, hw1⟩))
    go_ret
    exact ⟨ret_bool (by rw [HY.out, hc]; rfl), (HE.out.below hw1).kept⟩
  · rw [hc] at HC
    go_enter Tryd.func12, Tryd.ntmps12
    go_wp2_with (first
      | (refine wpList_load_mid rfl 26 _ rfl w.heap.size 0 rfl (cl r.u.m) _ M0.out Tryd.underlying26 rfl infoCube ?_)
      | (go_at_call 32; refine HC.out.mono ?_; rintro e w1 ⟨rfl, hw1⟩; refine Hid.out ?_))
    have R1 := Lib.hid (R0.out.below hw1)
    have HE1 := Lib.hid (HE.out.below hw1)
    have HA1 := Lib.hid (HA.out w1 HE1.out)
    clear hw1 HC R0 HE HA M0
    obtain ⟨_, _, k25, _⟩ := R1.out.cellsR
    cases hs : sndAL r.u.acts
    · rw [hs] at HA1
      refine Lib.hid ?_
      go_wp2_with (go_at_call 33; refine HA1.out.mono ?_; rintro e w2 ⟨rfl, hw2⟩)
      go_ret
      exact ⟨ret_bool (by rw [HY.out, hc, hs]; rfl), (HE1.out.below hw2).kept⟩
    · rw [hs] at HA1
      refine Lib.hid ?_
      go_wp2_with (go_at_call 33; refine HA1.out.mono ?_; rintro e w2 ⟨rfl, hw2⟩; refine Hid.out ?_)
      have R2 := Lib.hid (R1.out.below hw2)
      have HE2 := Lib.hid (HE1.out.below hw2)
      clear hw2 HA1 R1 HE1 k25
      obtain ⟨_, k24, _, k26, k27, k28, k29, k30, k31⟩ := R2.out.cellsR
      refine Lib.hid ?_
      cases h1 : upB r.u.p 65535
      · go_wp2_with (go_at_call 34; refine (span_any _ _ _).mono ?_; rintro e w3 ⟨rfl, rfl⟩)
        go_ret
        exact ⟨ret_bool (by rw [HY.out, hc, hs, h1]; rfl), HE2.out.kept⟩
      · skip
        cases h2 : upB r.u.idle 1048576
        · go_wp2_with (go_at_call 34; refine (span_any _ _ _).mono ?_; rintro e w3 ⟨rfl, rfl⟩)
          go_ret
          exact ⟨ret_bool (by rw [HY.out, hc, hs, h1, h2]; rfl), HE2.out.kept⟩
        · skip
          cases h3 : upB r.u.hard 1048576
          · go_wp2_with (go_at_call 34; refine (span_any _ _ _).mono ?_; rintro e w3 ⟨rfl, rfl⟩)
            go_ret
            exact ⟨ret_bool (by rw [HY.out, hc, hs, h1, h2, h3]; rfl), HE2.out.kept⟩
          · skip
            cases h4 : upB r.u.owner 255
            · go_wp2_with (go_at_call 34; refine (span_any _ _ _).mono ?_; rintro e w3 ⟨rfl, rfl⟩)
              go_ret
              exact ⟨ret_bool (by rw [HY.out, hc, hs, h1, h2, h3, h4]; rfl), HE2.out.kept⟩
            · skip
              by_cases h5 : 0 ≤ r.u.hits
              rotate_left
              · have h5d : decide (0 ≤ r.u.hits) = false := decide_eq_false h5
                go_wp2_with (go_at_call 34; refine (span_any _ _ _).mono ?_; rintro e w3 ⟨rfl, rfl⟩)
                go_ret
                exact ⟨ret_bool (by rw [HY.out, hc, hs, h1, h2, h3, h4, h5d]; rfl), HE2.out.kept⟩
              have h5d : decide (0 ≤ r.u.hits) = true := decide_eq_true h5
              by_cases h6 : 0 ≤ r.u.quiet
              rotate_left
              · have h6d : decide (0 ≤ r.u.quiet) = false := decide_eq_false h6
                go_wp2_with (go_at_call 34; refine (span_any _ _ _).mono ?_; rintro e w3 ⟨rfl, rfl⟩)
                go_ret
                exact ⟨ret_bool (by rw [HY.out, hc, hs, h1, h2, h3, h4, h5d, h6d]; rfl), HE2.out.kept⟩
              have h6d : decide (0 ≤ r.u.quiet) = true := decide_eq_true h6
              by_cases h7 : 0 ≤ r.u.age
              rotate_left
              · have h7d : decide (0 ≤ r.u.age) = false := decide_eq_false h7
                go_wp2_with (go_at_call 34; refine (span_any _ _ _).mono ?_; rintro e w3 ⟨rfl, rfl⟩)
                go_ret
                exact ⟨ret_bool (by rw [HY.out, hc, hs, h1, h2, h3, h4, h5d, h6d, h7d]; rfl), HE2.out.kept⟩
              have h7d : decide (0 ≤ r.u.age) = true := decide_eq_true h7
              go_wp2_with (go_at_call 34; refine (span_any _ _ _).mono ?_; rintro e w3 ⟨rfl, rfl⟩)
              go_ret
              exact ⟨ret_bool (by rw [HY.out, hc, hs, h1, h2, h3, h4, h5d, h6d, h7d]; rfl), HE2.out.kept⟩
end Go.Proofs.YthalpnmejompdaaDoor
