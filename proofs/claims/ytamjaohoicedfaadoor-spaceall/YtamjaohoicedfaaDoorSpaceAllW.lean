/-
  The walk of the law SpaceAll.
-/
import Derived.Test.YtamjaohoicedfaaDoorSpaceLaw
import Derived.Test.YtamjaohoicedfaaDoorSpaceRef
namespace Go.Proofs.YtamjaohoicedfaaDoor
open Go.RowKit

set_option maxHeartbeats 1000000 in
set_option maxRecDepth 100000 in
theorem spaceAll_many (p : Option Addr) (cp n : Nat) (w : World) (ht : Tab w) (hz : 0 < w.heap.size) (h : ¬ n ≤ 8) :
    Calls Tryd.prog 5 #[.slice p n cp] w fun e w' => e = .returned (.bool true) ∧ Below w.heap.size w w' := by
  have F1 := Lib.hid (few_any p n cp w)
  have HA := Lib.hid (sanswers w ht hz)
  rw [decide_eq_false h] at F1
  clear ht h
  go_enter Tryd.func5, Tryd.ntmps5
  go_wp2_with (first
    | (go_at_call 15; refine F1.out.mono ?_; rintro e w' ⟨rfl, rfl⟩)
    | (go_at_call 7; refine HA.out.mono ?_; rintro e w1 ⟨rfl, hw1⟩))
  go_ret
  exact ⟨rfl, hw1⟩
set_option maxHeartbeats 1000000 in
set_option maxRecDepth 100000 in
theorem spaceAll_form (p : Option Addr) (cp : Nat) (l : List (Nat → Int)) (hlen : l.length ≤ 8) (hw : WfL l) (w : World) (hl : Lies (.slice p l.length cp) l w) (ht : Tab w) (hz : 0 < w.heap.size) (h : sndL l = false) :
    Calls Tryd.prog 5 #[.slice p l.length cp] w fun e w' => e = .returned (.bool true) ∧ Below w.heap.size w w' := by
  have F1 := Lib.hid (few_any p l.length cp w)
  rw [decide_eq_true hlen] at F1
  have HR := Lib.hid (rspace_any _ l (by omega) hw w hl)
  rw [h] at HR
  have hE := Env.start ht hz
  have HA := Lib.hid (fun (W : World) (hb : Below w.heap.size w W) => sanswers W (hE.pred W hb).1 (hE.pred W hb).2)
  clear ht h hl hw hE
  go_enter Tryd.func5, Tryd.ntmps5
  go_wp2_with (first
    | (go_at_call 15; refine F1.out.mono ?_; rintro e w' ⟨rfl, rfl⟩)
    | (go_at_call 11; refine HR.out.mono ?_; rintro e w1 ⟨rfl, hw1⟩)
    | (go_at_call 7; refine (HA.out _ hw1).mono ?_; rintro e w2 ⟨rfl, hw2⟩))
  go_ret
  exact ⟨rfl, hw1.trans (hw2.mono hw1.size)⟩
set_option maxHeartbeats 4000000 in
set_option maxRecDepth 100000 in
theorem spaceAll_few (p : Option Addr) (cp : Nat) (l : List (Nat → Int)) (hlen : l.length ≤ 8) (hw : WfL l) (w : World) (hl : Lies (.slice p l.length cp) l w) (ht : Tab w) (hz : 0 < w.heap.size) (hs : sndL l = true) :
    Calls Tryd.prog 5 #[.slice p l.length cp] w fun e w' => e = .returned (.bool true) ∧ Below w.heap.size w w' := by
  have F1 := Lib.hid (few_any p l.length cp w)
  rw [decide_eq_true hlen] at F1
  have HR := Lib.hid (rspace_any _ l (by omega) hw w hl)
  rw [hs] at HR
  have hE := Env.start ht hz
  have HA := Lib.hid (fun (W : World) (hb : Below w.heap.size w W) => sanswers W (hE.pred W hb).1 (hE.pred W hb).2)
  have HLs := Lib.hid (fun (v : Value) (W : World) (lv : Lies v [zh] W) (hb : Below w.heap.size w W) => sless_of v _ [zh] l (by simp) (by omega) (wfL_one zh_wf) hw W lv (hl.below hb) (hE.pred W hb).1 (hE.pred W hb).2)
  have HW := Lib.hid (fun (v u : Value) (b : List (Nat → Int)) (W : World) (hb' : b.length ≤ 1000000) (wb : WfL b) (la : Lies v [zh] W) (lb : Lies u b W) (hb : Below w.heap.size w W) => swithin_any v u [zh] b (by simp) hb' (wfL_one zh_wf) wb W la lb (hE.pred W hb).1 (hE.pred W hb).2)
  have HT := Lib.hid (fun (v : Value) (a : List (Nat → Int)) (W : World) (ha : a.length ≤ 1000000) (wa : WfL a) (la : Lies v a W) (hb : Below w.heap.size w W) => stouch_any v _ a l ha (by omega) wa hw W la (hl.below hb) (hE.pred W hb).1 (hE.pred W hb).2)
  have HAr := Lib.hid hl
  have HWf := Lib.hid hw
  have HSn := Lib.hid hs
  clear hl hw ht hE hs
  go_enter Tryd.func5, Tryd.ntmps5
  go_upto_region 3 with (first
    | (go_at_call 15; refine F1.out.mono ?_; rintro e w' ⟨rfl, rfl⟩)
    | (go_at_call 11; refine HR.out.mono ?_; rintro e w0 ⟨rfl, hw0⟩))
  have HB0 := Lib.hid (hw0.alloc hw0.size (.cells (cc zh) 30))
  clear F1 HR hw0
  go_upto_region 4 with (first
    | (refine buildZero rfl rfl ?_)
    | (refine buildOne rfl (.tmp 17) rfl zh rfl ?_)
    | (go_at_call 17; refine (HLs.out _ _ (Lies.one (Blk.new w0 _ _)) HB0.out).mono ?_; rintro e w1 ⟨R, er, hlo, vl, rfl, ho1, hb1⟩))
  obtain ⟨pl, cl', rfl⟩ := ho1.form
  have hb01 := HB0.out.trans (hb1.mono HB0.out.size)
  have HS := Lib.hid (show SamL w (.slice p l.length cp) (.slice pl R.length cl') l R w1 from ⟨HAr.out.below hb01, ho1.lies, hb01⟩)
  have HLo := Lib.hid hlo
  clear HLs HB0 hb1 ho1 hlo hb01 HAr
  rcases Bool.eq_false_or_eq_true (er != 0) with h1 | h1
  · have HA2 := Lib.hid (HA.out _ HS.out.2.2)
    go_wp2_with (go_at_call 7; refine HA2.out.mono ?_; rintro e w3 ⟨rfl, hw3⟩)
    go_ret
    exact ⟨rfl, HS.out.2.2.trans (hw3.mono HS.out.2.2.size)⟩
  have e1 : er = 0 := by simpa using h1
  subst e1
  obtain ⟨wl, sl, nl⟩ := HLo.out.wf (wfL_one zh_wf) HWf.out
  rcases Nat.lt_or_ge 64 (R.length + l.length) with h3 | h3
  · have hI : (64 : Int) < (R.length : Int) + (l.length : Int) := by omega
    have HA2 := Lib.hid (HA.out _ HS.out.2.2)
    go_wp2_with (go_at_call 7; refine HA2.out.mono ?_; rintro e w3 ⟨rfl, hw3⟩)
    go_ret
    exact ⟨rfl, HS.out.2.2.trans (hw3.mono HS.out.2.2.size)⟩
  have hI : ¬ (64 : Int) < (R.length : Int) + (l.length : Int) := by omega
  have hle := fun x (hx : Wf x) => HLo.out.has (wfL_one zh_wf) HWf.out hx
  have wb := wl.append HWf.out
  have sb := sndL_append sl (sndL_iff.1 HSn.out).2 h3
  have T1 : touchL R l = false := bool_false fun h => by
    obtain ⟨x, hx, a, b⟩ := (touch_iff wl HWf.out).1 h
    rw [hle x hx, b] at a
    simp at a
  have W1 := Lib.hid (fun (y : Bool) (err : Int) (h : WithinOf [zh] (R ++ l) y err) => within_gives (wfL_one zh_wf) wb sndL_zh sb (fun x hx h => by
    rw [hasL_append, hle x hx, h]
    cases hasL l x <;> rfl) h)
  have hlb : (R ++ l).length ≤ 1000000 := by rw [List.length_append]; omega
  obtain ⟨Rb, hRb⟩ : ∃ Rb, Rb = R ++ l := ⟨_, rfl⟩
  rw [← hRb] at W1 hlb wb
  have HRb := Lib.hid hRb
  have HWb := Lib.hid wb
  have C1 := Lib.hid (fun (v u : Value) (W : World) (la : Lies v [zh] W) (lb : Lies u Rb W) (hb : Below w.heap.size w W) => HW.out v u Rb W hlb HWb.out la lb hb)
  have C3 := Lib.hid (fun (W : World) (s : SamL w (.slice p l.length cp) (.slice pl R.length cl') l R W) => HT.out _ R W (by omega) wl s.2.1 s.2.2)
  rw [T1] at C3
  clear HW HT T1 HWf HSn sl hle sb HLo wl wb h1 hRb
  have B1 := Lib.hid (below1 w1 (.cells (cc zh) 30))
  have RZ := Lib.hid (Lies.one (Blk.new w1 (cc zh) 30))
  have HS1 := Lib.hid (SamL.below (below1 w1 (.cells (cc zh) 30)) HS.out)
  have HS2 := Lib.hid (SamL.below (below1 (w1.alloc (.cells (cc zh) 30)) (.cells #[] 30)) HS1.out)
  go_upto_region 6 with (fail)
  go_upto_region 7 with (first
    | (refine buildZero rfl rfl ?_)
    | (refine buildOne rfl (.tmp 35) rfl zh rfl ?_; generalize hW1 : w1.alloc (.cells (cc zh) 30) = W1' at *)
    | (refine buildNone rfl rfl ?_)
    | (refine appendL rfl (.tmp 37) (.tmp 38) rfl W1'.heap.size _ [] R rfl (Owns.built W1' _ (Nat.le_refl _)) _ rfl HS2.out.2.1 (by simp) (by simp; omega) (fun v5 w5 ho5 hg5 _ => ?_); have hb5 := belowOwn (below1 W1' (.cells #[] 30)) (Owns.built W1' _ (Nat.le_refl _)) (Nat.le_refl _) hg5; have HS5 := Lib.hid (SamL.below hb5 HS1.out); have H5 := Lib.hid (And.intro ho5 hb5); clear ho5 hg5 hb5)
    | (refine appendL rfl (.tmp 39) (.tmp 40) rfl W1'.heap.size _ ([] ++ R) l rfl H5.out.1 _ rfl HS5.out.1 H5.out.2.size (by simpa using (show R.length + l.length ≤ 1000000 by omega)) (fun v6 w6 ho6 hg6 _ => ?_); have hb6 := belowOwn H5.out.2 H5.out.1 (Nat.le_refl _) hg6; have HS6 := Lib.hid (SamL.below hb6 HS1.out); have RZ6 := Lib.hid (RZ.out.below hb6); have H6 := Lib.hid (show Lies v6 Rb w6 from by rw [HRb.out]; exact ho6.lies); clear ho6 hg6 hb6)
    | (go_at_call 18; refine (C1.out _ _ _ RZ6.out H6.out HS6.out.2.2).mono ?_; rintro e w7 ⟨x, g, hx, rfl, hb7⟩))
  have hx1 := W1.out x g hx
  have HS7 := Lib.hid (SamL.below hb7 HS6.out)
  clear hb7 HS6 H6 hx W1 C1 RZ6 HS5 H5 HS2 HS1 RZ B1 HS
  have cx : (g != 0) = true ∨ (g != 0) = false ∧ x = true := by
    cases hg : (g != 0)
    · rw [hg] at hx1; exact .inr ⟨rfl, by simpa using hx1⟩
    · exact .inl rfl
  clear hx1
  have HA2 := Lib.hid (HA.out _ HS7.out.2.2)
  rcases cx with hg | ⟨hg, rfl⟩
  all_goals
    go_wp2_with (first
      | (go_at_call 7; refine HA2.out.mono ?_; rintro e w9 ⟨rfl, hw9⟩; have HS9 := Lib.hid (SamL.below hw9 HS7.out); clear hw9 HA2)
      | (go_at_call 19; refine (C3.out _ HS9.out).mono ?_; rintro e w10 ⟨rfl, hw10⟩))
    go_ret
    exact ⟨rfl, (SamL.below hw10 HS9.out).2.2⟩
theorem spaceAll_any (w : World) (ht : Tab w) (hz : 0 < w.heap.size) (v : Value) (l : List (Nat → Int)) (hl : Lies v l w) (hw : WfL l) :
    Calls Tryd.prog 5 #[v] w fun e w' => e = .returned (.bool true) ∧ Below w.heap.size w w' := by
  obtain ⟨p, cp, rfl⟩ := hl.form
  by_cases h : l.length ≤ 8
  · cases hs : sndL l
    · exact spaceAll_form p cp l h hw w hl ht hz hs
    · exact spaceAll_few p cp l h hw w hl ht hz hs
  · exact spaceAll_many p cp _ w ht hz h
end Go.Proofs.YtamjaohoicedfaaDoor
