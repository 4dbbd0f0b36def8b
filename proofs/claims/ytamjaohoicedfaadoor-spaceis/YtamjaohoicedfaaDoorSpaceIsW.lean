/-
  The walk of the law SpaceIs.
-/
import Derived.Test.YtamjaohoicedfaaDoorSpaceRle
namespace Go.Proofs.YtamjaohoicedfaaDoor
open Go.RowKit

/-- what the law has in memory -/
def IsS (w0 : World) (v : Value) (l : List (Nat → Int)) (h : Nat → Int) (vr : Value) (R : List (Nat → Int)) (W : World) : Prop := Lies v l W ∧ Blk w0.heap.size (hc h) 25 W ∧ Lies vr R W ∧ Below w0.heap.size w0 W
theorem IsS.below {w0 : World} {v : Value} {l : List (Nat → Int)} {h : Nat → Int} {vr : Value} {R : List (Nat → Int)} {W W' : World} (hb : Below W.heap.size W W') (s : IsS w0 v l h vr R W) : IsS w0 v l h vr R W' :=
  ⟨s.1.below hb, s.2.1.below hb, s.2.2.1.below hb, s.2.2.2.trans (hb.mono s.2.2.2.size)⟩
theorem any_take (l : List (Nat → Int)) (q : (Nat → Int) → Bool) {r : Nat} (h : r < l.length) : (l.take (r + 1)).any q = ((l.take r).any q || q (nth l r)) := by
  rw [take_nth l h, List.any_append]
  simp
set_option maxHeartbeats 1000000 in
set_option maxRecDepth 100000 in
theorem spaceIs_many (p : Option Addr) (cp n : Nat) (h : Nat → Int) (w0 : World) (ht : Tab w0) (hz : 0 < w0.heap.size) (hn : ¬ n ≤ 70) :
    Calls Tryd.prog 3 #[.slice p n cp, .agg (hc h)] w0 fun e w' => e = .returned (.bool true) ∧ Below w0.heap.size w0 w' := by
  have hE := (Env.start ht hz).alloc (.cells (hc h) 25)
  have HA := Lib.hid (sanswers _ hE.tab hE.lt)
  have HE := Lib.hid hE
  have hI : (70 : Int) < (n : Int) := by omega
  clear ht hE hn
  go_enter Tryd.func3, Tryd.ntmps3
  go_wp2_with (go_at_call 7; refine HA.out.mono ?_; rintro e w1 ⟨rfl, hw1⟩)
  go_ret
  exact ⟨rfl, (HE.out.below hw1).kept⟩
set_option maxHeartbeats 8000000 in
set_option maxRecDepth 100000 in
theorem spaceIs_few (p : Option Addr) (cp : Nat) (l : List (Nat → Int)) (h : Nat → Int) (hlen : l.length ≤ 70) (hw : WfL l) (hh : Wf h) (w0 : World) (hl : Lies (.slice p l.length cp) l w0) (ht : Tab w0) (hz : 0 < w0.heap.size) :
    Calls Tryd.prog 3 #[.slice p l.length cp, .agg (hc h)] w0 fun e w' => e = .returned (.bool true) ∧ Below w0.heap.size w0 w' := by
  have hE := Env.start ht hz
  have B1 := Lib.hid (below1 w0 (.cells (hc h) 25))
  have HA := Lib.hid (fun (W : World) (hb : Below w0.heap.size w0 W) => sanswers W (hE.pred W hb).1 (hE.pred W hb).2)
  have HLn := Lib.hid (fun (v : Value) (W : World) (lv : Lies v l W) (hb : Below w0.heap.size w0 W) => lean_any v l (by omega) hw W lv (hE.pred W hb).1 (hE.pred W hb).2)
  have HSo := Lib.hid (fun (v : Value) (W : World) (lv : Lies v l W) (hb : Below w0.heap.size w0 W) => ssound_any v l (by omega) hw W lv (hE.pred W hb).1 (hE.pred W hb).2)
  have HSp := Lib.hid (fun (v : Value) (W : World) (lv : Lies v l W) => rspace_any v l (by omega) hw W lv)
  have HRl := Lib.hid (fun (v : Value) (W : World) (lv : Lies v l W) => rlean_any v l (by omega) hw W lv)
  have HHs := Lib.hid (fun (v : Value) (a : List (Nat → Int)) (W : World) (ha : a.length ≤ 1000000) (wa : WfL a) (lv : Lies v a W) (hb : Below w0.heap.size w0 W) => shas_any v a h ha wa hh W lv (hE.pred W hb).1 (hE.pred W hb).2)
  have HRh := Lib.hid (fun (c : Nat → Int) (hc' : Wf c) (W : World) => rhas_any c h hc' hh W)
  have A1 := Lib.hid ((hl.below (below1 w0 (.cells (hc h) 25))).below (below1 _ (.cells #[] 30)))
  have HL := Lib.hid hl
  have HW := Lib.hid (And.intro hw hh)
  have hI : ¬ (70 : Int) < (l.length : Int) := by omega
  clear hl hw hh ht hE
  go_enter Tryd.func3, Tryd.ntmps3
  go_upto_region 3 with (fail)
  generalize hW1 : w0.alloc (.cells (hc h) 25) = W1 at *
  have RB := Lib.hid (show Blk w0.heap.size (hc h) 25 W1 from by rw [← hW1]; exact Blk.new _ _ _)
  clear hW1
  go_upto_region 4 with (first
    | (refine buildNone rfl rfl ?_)
    | (refine appendL rfl (.tmp 12) (.tmp 13) rfl W1.heap.size _ [] l rfl (Owns.built W1 _ (Nat.le_refl _)) _ rfl A1.out (by simp) (by simp; omega) (fun v5 w5 ho5 hg5 _ => ?_); have hb5 := belowOwn (below1 W1 (.cells #[] 30)) (Owns.built W1 _ (Nat.le_refl _)) (Nat.le_refl _) hg5; have B5 := Lib.hid (B1.out.trans (hb5.mono B1.out.size)); have RB5 := Lib.hid (RB.out.below hb5); have H5 := Lib.hid (show Lies v5 l w5 from ho5.lies); clear ho5 hg5 hb5)
    | (go_at_call 8; refine (HLn.out _ _ H5.out B5.out).mono ?_; rintro e w6 ⟨L, vr, hp6, hs6, rfl, ho6, hb6⟩))
  obtain ⟨R, hR⟩ : ∃ R, R = leanGo l.length L [] := ⟨_, rfl⟩
  have HR := Lib.hid (show LeanOf l R from ⟨L, hp6, hs6, hR⟩)
  rw [← hR] at ho6
  obtain ⟨pr, cr, rfl⟩ := ho6.form
  have B6 := B5.out.trans (hb6.mono B5.out.size)
  have HS := Lib.hid (show IsS w0 (.slice p l.length cp) l h (.slice pr R.length cr) R w6 from ⟨HL.out.below B6, RB5.out.below hb6, ho6.lies, B6⟩)
  clear hR hp6 hs6 ho6 hb6 B6 B5 RB5 H5 RB A1 B1 HLn
  go_wp2_with fail
  go_loopg [7, 6] l.length (fun kk i iv wr => ∃ (r : Nat) (y : Bool), r + kk = l.length ∧ i = .int .i64 r ∧ iv = .bool y ∧ y = (l.take r).any (fun c => hasB c h) ∧ IsS w0 (.slice p l.length cp) l h (.slice pr R.length cr) R wr)
  case atStart => exact ⟨0, false, by omega, rfl, rfl, by simp, HS.out⟩
  case round =>
    clear HS
    obtain ⟨r, y, hr, rfl, rfl, hy, hS⟩ := hrel
    have HY := Lib.hid hy
    have HS := Lib.hid hS
    clear hy hS
    by_cases hlt : r < l.length
    · have hltI : (r : Int) < (l.length : Int) := by omega
      have hdI : decide ((r : Int) < (l.length : Int)) = true := decide_eq_true hltI
      obtain ⟨b, o, rfl, _⟩ := HS.out.1.at hlt
      have HN := Lib.hid (any_take l (fun c => hasB c h) hlt)
      cases y
      · have HC := Lib.hid (HRh.out (nth l r) (HW.out.1.nth hlt))
        go_upto_region 8 with (fail)
        refine wp_region_held_drew (S := IsS w0 (.slice (some ⟨b, o, none⟩) l.length cp) l h (.slice pr R.length cr) R) (by kernel_rfl) (IsS.below (Below.refl _ _).drew HS.out) (fun hS => ?_)
        clear HS
        refine seqRead 0 (v := _) rfl (by kernel_rfl) (by kernel_rfl) (by kernel_rfl) (fun _ _ _ h => h) rfl (fun w hSw => by go_simp <;> with_reducible rfl) hS ?_
        try simp only [Act.put, List.setIfInBounds_toArray, List.set_cons_zero, List.set_cons_succ]
        refine seqRead 1 (v := _) rfl (by kernel_rfl) (by kernel_rfl) (by kernel_rfl) (fun _ _ _ h => h) rfl (fun w hSw => by go_simp <;> with_reducible rfl) hS ?_
        try simp only [Act.put, List.setIfInBounds_toArray, List.set_cons_zero, List.set_cons_succ]
        refine seqRead 2 (v := _) rfl (by kernel_rfl) (by kernel_rfl) (by kernel_rfl) (fun _ _ _ h => h) rfl (fun w hSw => by go_simp <;> with_reducible rfl) hS ?_
        try simp only [Act.put, List.setIfInBounds_toArray, List.set_cons_zero, List.set_cons_succ]
        refine seqRead 3 (v := _) rfl (by kernel_rfl) (by kernel_rfl) (by kernel_rfl) (fun _ _ _ h => h) rfl (fun w hSw => by go_simp <;> with_reducible rfl) hS ?_
        try simp only [Act.put, List.setIfInBounds_toArray, List.set_cons_zero, List.set_cons_succ]
        refine seqRead 4 (v := _) rfl (by kernel_rfl) (by kernel_rfl) (by kernel_rfl) (fun _ _ _ h => h) rfl (fun w hSw => by go_simp <;> with_reducible rfl) hS ?_
        try simp only [Act.put, List.setIfInBounds_toArray, List.set_cons_zero, List.set_cons_succ]
        refine seqRead 5 (v := _) rfl (by kernel_rfl) (by kernel_rfl) (by kernel_rfl) (fun _ _ _ h => h) rfl (fun w hSw => execRow rfl b (o + r * 24) rfl (cl (nth l r)) _ (hSw.1.at' hlt) Tryd.underlying30 rfl infoCube) hS ?_
        try simp only [Act.put, List.setIfInBounds_toArray, List.set_cons_zero, List.set_cons_succ]
        refine seqRead 6 (v := _) rfl (by kernel_rfl) (by kernel_rfl) (by kernel_rfl) (fun _ _ _ h => h) rfl (fun w hSw => execBlk rfl w0.heap.size rfl hSw.2.1 Tryd.underlying25 rfl (by kernel_rfl)) hS ?_
        try simp only [Act.put, List.setIfInBounds_toArray, List.set_cons_zero, List.set_cons_succ]
        refine seqCall 7 rfl (by kernel_rfl) rfl (fun K hK => ?_)
        go_simp
        refine (HC.out _).mono ?_
        rintro e w5 ⟨rfl, hw5⟩
        refine hK.out _ _ (IsS.below hw5 hS) (fun hS => ?_)
        clear hK K hw5
        try simp only [Act.put, List.setIfInBounds_toArray, List.set_cons_zero, List.set_cons_succ]
        refine seqRead 8 (v := _) rfl (by kernel_rfl) (by kernel_rfl) (by kernel_rfl) (fun _ _ _ h => h) rfl (fun w hSw => by go_simp <;> with_reducible rfl) hS ?_
        try simp only [Act.put, List.setIfInBounds_toArray, List.set_cons_zero, List.set_cons_succ]
        refine seqRead 9 (v := _) rfl (by kernel_rfl) (by kernel_rfl) (by kernel_rfl) (fun _ _ _ h => h) rfl (fun w hSw => by go_simp <;> with_reducible rfl) hS ?_
        try simp only [Act.put, List.setIfInBounds_toArray, List.set_cons_zero, List.set_cons_succ]
        refine seqDone (by kernel_rfl) ?_
        have HS := Lib.hid hS
        clear hS HC
        go_wp2_with fail
        go_roundg (l.length - (r + 1))
        case measure => omega
        case rel => exact ⟨r + 1, _, by omega, by go_num, rfl, by rw [HN.out, ← HY.out]; rfl, HS.out⟩
      · go_upto_region 8 with (fail)
        refine wp_region_held_drew (S := IsS w0 (.slice (some ⟨b, o, none⟩) l.length cp) l h (.slice pr R.length cr) R) (by kernel_rfl) (IsS.below (Below.refl _ _).drew HS.out) (fun hS => ?_)
        clear HS
        refine seqRead 0 (v := _) rfl (by kernel_rfl) (by kernel_rfl) (by kernel_rfl) (fun _ _ _ h => h) rfl (fun w hSw => by go_simp <;> with_reducible rfl) hS ?_
        try simp only [Act.put, List.setIfInBounds_toArray, List.set_cons_zero, List.set_cons_succ]
        refine seqRead 1 (v := _) rfl (by kernel_rfl) (by kernel_rfl) (by kernel_rfl) (fun _ _ _ h => h) rfl (fun w hSw => by go_simp <;> with_reducible rfl) hS ?_
        try simp only [Act.put, List.setIfInBounds_toArray, List.set_cons_zero, List.set_cons_succ]
        refine seqSkip 2 rfl (by kernel_rfl) (by kernel_rfl) (by kernel_rfl) (fun _ _ _ h => h) rfl hS ?_
        try simp only [Act.put, List.setIfInBounds_toArray, List.set_cons_zero, List.set_cons_succ]
        refine seqSkip 3 rfl (by kernel_rfl) (by kernel_rfl) (by kernel_rfl) (fun _ _ _ h => h) rfl hS ?_
        try simp only [Act.put, List.setIfInBounds_toArray, List.set_cons_zero, List.set_cons_succ]
        refine seqSkip 4 rfl (by kernel_rfl) (by kernel_rfl) (by kernel_rfl) (fun _ _ _ h => h) rfl hS ?_
        try simp only [Act.put, List.setIfInBounds_toArray, List.set_cons_zero, List.set_cons_succ]
        refine seqSkip 5 rfl (by kernel_rfl) (by kernel_rfl) (by kernel_rfl) (fun _ _ _ h => h) rfl hS ?_
        try simp only [Act.put, List.setIfInBounds_toArray, List.set_cons_zero, List.set_cons_succ]
        refine seqSkip 6 rfl (by kernel_rfl) (by kernel_rfl) (by kernel_rfl) (fun _ _ _ h => h) rfl hS ?_
        try simp only [Act.put, List.setIfInBounds_toArray, List.set_cons_zero, List.set_cons_succ]
        refine seqSkip 7 rfl (by kernel_rfl) (by kernel_rfl) (by kernel_rfl) (fun _ _ _ h => h) rfl hS ?_
        try simp only [Act.put, List.setIfInBounds_toArray, List.set_cons_zero, List.set_cons_succ]
        refine seqRead 8 (v := _) rfl (by kernel_rfl) (by kernel_rfl) (by kernel_rfl) (fun _ _ _ h => h) rfl (fun w hSw => by go_simp <;> with_reducible rfl) hS ?_
        try simp only [Act.put, List.setIfInBounds_toArray, List.set_cons_zero, List.set_cons_succ]
        refine seqRead 9 (v := _) rfl (by kernel_rfl) (by kernel_rfl) (by kernel_rfl) (fun _ _ _ h => h) rfl (fun w hSw => by go_simp <;> with_reducible rfl) hS ?_
        try simp only [Act.put, List.setIfInBounds_toArray, List.set_cons_zero, List.set_cons_succ]
        refine seqDone (by kernel_rfl) ?_
        have HS := Lib.hid hS
        clear hS
        go_wp2_with fail
        go_roundg (l.length - (r + 1))
        case measure => omega
        case rel => exact ⟨r + 1, true, by omega, by go_num, rfl, by rw [HN.out, ← HY.out]; rfl, HS.out⟩
    · have hltI : ¬ (r : Int) < (l.length : Int) := by omega
      have hy : y = hasL l h := by rw [HY.out, List.take_of_length_le (by omega)]; rfl
      have hRh : hasL R h = y := by rw [hy]; exact HR.out.has HW.out.1 HW.out.2
      have C3 := Lib.hid (HHs.out (.slice p l.length cp) l)
      have C5 := Lib.hid (HHs.out (.slice pr R.length cr) R)
      rw [show (l.any fun c => hasB c h) = y from hy.symm] at C3
      rw [show (R.any fun c => hasB c h) = y from hRh] at C5
      have hRl : R.length ≤ 1000000 := by have := HR.out.len; omega
      have HWR := Lib.hid (show WfL R from fun x hx => HW.out.1 x (HR.out.sub x hx).1)
      clear hy hRh HY HHs
      generalize sndL l = y1 at *
      go_wp2_with (first
        | (go_at_call 7; refine (HA.out _ HS.out.2.2.2).mono ?_; rintro e wA ⟨rfl, hwA⟩; have SA := Lib.hid (IsS.below hwA HS.out); clear hwA HA)
        | (go_at_call 10; refine (HSo.out _ _ SA.out.1 SA.out.2.2.2).mono ?_; rintro e wB ⟨rfl, hwB⟩; have SB := Lib.hid (IsS.below hwB SA.out); clear hwB HSo)
        | (go_at_call 11; refine (HSp.out _ _ SB.out.1).mono ?_; rintro e wC ⟨rfl, hwC⟩; have SC := Lib.hid (IsS.below hwC SB.out); clear hwC HSp)
        | (go_at_call 12; refine (C3.out _ (by omega) HW.out.1 SC.out.1 SC.out.2.2.2).mono ?_; rintro e wD ⟨rfl, hwD⟩; have SD := Lib.hid (IsS.below hwD SC.out); clear hwD C3)
        | (go_at_call 14; refine (HRl.out _ _ SD.out.1).mono ?_; rintro e wE ⟨R', v', hR', rfl, hoE, hbE⟩; have SE := Lib.hid (IsS.below hbE SD.out); have HM := Lib.hid (lean_same HW.out.1 HR.out hR'); have LE := Lib.hid hoE.lies; clear hoE hbE hR' HRl)
        | (go_at_call 13; refine (sameL_any _ _ R R' hRl HM.out.1 HM.out.2 _ SE.out.2.2.1 LE.out).mono ?_; rintro e wF ⟨rfl, hwF⟩; have SF := Lib.hid (IsS.below hwF SE.out); clear hwF)
        | (go_at_call 12; refine (C5.out _ hRl HWR.out SF.out.2.2.1 SF.out.2.2.2).mono ?_; rintro e wG ⟨rfl, hwG⟩)
        | (refine loadRowG rfl 25 (.tmp 3) rfl w0.heap.size rfl 25 (hc h) (0, 0) (by first | exact SC.out.2.1 | exact SF.out.2.1) Tryd.underlying25 rfl (by kernel_rfl) ?_))
      go_ret
      exact ⟨rfl, (IsS.below hwG SF.out).2.2.2⟩
theorem spaceIs_any (w : World) (ht : Tab w) (hz : 0 < w.heap.size) (v : Value) (l : List (Nat → Int)) (hl : Lies v l w) (hw : WfL l) (h : Nat → Int) (hh : Wf h) :
    Calls Tryd.prog 3 #[v, .agg (hc h)] w fun e w' => e = .returned (.bool true) ∧ Below w.heap.size w w' := by
  obtain ⟨p, cp, rfl⟩ := hl.form
  by_cases hn : l.length ≤ 70
  · exact spaceIs_few p cp l h hn hw hh w hl ht hz
  · exact spaceIs_many p cp _ h w ht hz hn
end Go.Proofs.YtamjaohoicedfaaDoor
