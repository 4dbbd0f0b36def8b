/-
  The walks of the laws SpaceLaws and SpaceAll.
-/
import Derived.Test.YtamjaohoicedfaaDoorSpaceAns
namespace Go.Proofs.YtamjaohoicedfaaDoor
open Go.RowKit

/-- what Meet and Less give -/
def MeetOf (l k R : List (Nat → Int)) (err : Int) : Prop := (sndL l && sndL k) = false ∧ R = [] ∧ err = 2 ∨ (sndL l && sndL k) = true ∧ FitsOf ((meetsL l k).filter csnd) R err
def LessOf (l k R : List (Nat → Int)) (err : Int) : Prop := (sndL l && sndL k) = false ∧ R = [] ∧ err = 2 ∨ (sndL l && sndL k) = true ∧ ∃ left, LeanOf l left ∧ LessGo k left R err
theorem smeet_of (v u : Value) (l k : List (Nat → Int)) (hlen : l.length ≤ 1000000) (hlen' : k.length ≤ 1000000) (hw : WfL l) (hw' : WfL k) (w : World) (hl : Lies v l w) (hk : Lies u k w) (ht : Tab w) (hz : 0 < w.heap.size) :
    Calls Tryd.prog 16 #[v, u] w fun e w' => ∃ R err, MeetOf l k R err ∧ PairRet w R err e w' := by
  refine (smeet_any v u l k hlen hlen' hw hw' w hl hk ht hz).mono ?_
  rintro e w' (⟨h, hp⟩ | ⟨h, R, err, hf, hp⟩)
  · exact ⟨[], 2, .inl ⟨h, rfl, rfl⟩, hp⟩
  · exact ⟨R, err, .inr ⟨h, hf⟩, hp⟩
theorem sless_of (v u : Value) (l k : List (Nat → Int)) (hlen : l.length ≤ 1000000) (hlen' : k.length ≤ 1000000) (hw : WfL l) (hw' : WfL k) (w : World) (hl : Lies v l w) (hk : Lies u k w) (ht : Tab w) (hz : 0 < w.heap.size) :
    Calls Tryd.prog 17 #[v, u] w fun e w' => ∃ R err, LessOf l k R err ∧ PairRet w R err e w' := by
  refine (sless_any v u l k hlen hlen' hw hw' w hl hk ht hz).mono ?_
  rintro e w' (⟨h, hp⟩ | ⟨h, left, R, err, h1, h2, hp⟩)
  · exact ⟨[], 2, .inl ⟨h, rfl, rfl⟩, hp⟩
  · exact ⟨R, err, .inr ⟨h, left, h1, h2⟩, hp⟩
theorem MeetOf.wf {l k R : List (Nat → Int)} {err : Int} (h : MeetOf l k R err) (hl : WfL l) (hk : WfL k) : WfL R ∧ (∀ x ∈ R, csnd x = true) ∧ R.length ≤ 64 := by
  rcases h with ⟨_, rfl, _⟩ | ⟨_, hf⟩
  · exact ⟨fun x hx => (by cases hx), fun x hx => (by cases hx), by simp⟩
  · exact ⟨(hf.wf (meetsL_wf hl hk)).1, (hf.wf (meetsL_wf hl hk)).2, hf.len⟩
theorem MeetOf.snd {l k R : List (Nat → Int)} (h : MeetOf l k R 0) : sndL l = true ∧ sndL k = true := by
  rcases h with ⟨_, _, h⟩ | ⟨h, _⟩
  · cases h
  · exact Bool.and_eq_true_iff.1 h
theorem MeetOf.has {l k R : List (Nat → Int)} (h : MeetOf l k R 0) (hl : WfL l) (hk : WfL k) {x : Nat → Int} (hx : Wf x) : hasL R x = (hasL l x && hasL k x) := by
  rcases h with ⟨_, _, h⟩ | ⟨_, hf⟩
  · cases h
  · rw [hf.has (meetsL_wf hl hk) hx, meets_has hl hk hx]
theorem LessOf.wf {l k R : List (Nat → Int)} {err : Int} (h : LessOf l k R err) (hl : WfL l) (hk : WfL k) : WfL R ∧ (∀ x ∈ R, csnd x = true) ∧ R.length ≤ 64 := by
  rcases h with ⟨_, rfl, _⟩ | ⟨hs, left, h1, h2⟩
  · exact ⟨fun x hx => (by cases hx), fun x hx => (by cases hx), by simp⟩
  · have sl := (Bool.and_eq_true_iff.1 hs).1
    have f := h2.facts hk (fun x hx => hl x (h1.sub x hx).1) (fun x hx => (h1.sub x hx).2) (Nat.le_trans h1.len (sndL_iff.1 sl).1)
    exact ⟨f.1, f.2.1, f.2.2.1⟩
theorem LessOf.snd {l k R : List (Nat → Int)} (h : LessOf l k R 0) : sndL l = true ∧ sndL k = true := by
  rcases h with ⟨_, _, h⟩ | ⟨h, _⟩
  · cases h
  · exact Bool.and_eq_true_iff.1 h
theorem LessOf.has {l k R : List (Nat → Int)} (h : LessOf l k R 0) (hl : WfL l) (hk : WfL k) {x : Nat → Int} (hx : Wf x) : hasL R x = (hasL l x && !hasL k x) := by
  have hs := h.snd
  rcases h with ⟨_, _, h⟩ | ⟨_, left, h1, h2⟩
  · cases h
  · exact (less_gives hl hk hs.1 hs.2 h1 h2).2.2.2 x hx
theorem sndL_append {l k : List (Nat → Int)} (hl : ∀ x ∈ l, csnd x = true) (hk : ∀ x ∈ k, csnd x = true) (h : l.length + k.length ≤ 64) : sndL (l ++ k) = true :=
  sndL_iff.2 ⟨by rw [List.length_append]; exact h, fun x hx => by
    rcases List.mem_append.1 hx with hx | hx
    · exact hl x hx
    · exact hk x hx⟩
theorem WfL.append {l k : List (Nat → Int)} (hl : WfL l) (hk : WfL k) : WfL (l ++ k) := fun x hx => by
  rcases List.mem_append.1 hx with hx | hx
  · exact hl x hx
  · exact hk x hx
theorem bool_false {b : Bool} (h : b = true → False) : b = false := by cases b <;> simp_all
/-- The first statement of two laws: too many cubes. -/
def Many (n m : Nat) : Bool := !decide (n ≤ 8) || !decide (m ≤ 8)
set_option maxHeartbeats 1000000 in
set_option maxRecDepth 100000 in
theorem spaceLaws_many (p q : Option Addr) (cp cq n m : Nat) (w : World) (ht : Tab w) (hz : 0 < w.heap.size) (h : Many n m = true) :
    Calls Tryd.prog 4 #[.slice p n cp, .slice q m cq] w fun e w' => e = .returned (.bool true) ∧ Below w.heap.size w w' := by
  have HF := Lib.hid (fun (p : Option Addr) (n c : Nat) => few_any p n c w)
  have HA := Lib.hid (sanswers w ht hz)
  clear ht
  unfold Many at h
  by_cases h1 : n ≤ 8
  · have h2 : ¬ m ≤ 8 := by simpa [h1] using h
    have e1 : decide (n ≤ 8) = true := decide_eq_true h1
    have e2 : decide (m ≤ 8) = false := decide_eq_false h2
    clear h h1 h2
    have F1 := Lib.hid (HF.out p n cp)
    have F2 := Lib.hid (HF.out q m cq)
    rw [e1] at F1
    rw [e2] at F2
    go_enter Tryd.func4, Tryd.ntmps4
    go_wp2_with (first
      | (go_at_call 15; refine F1.out.mono ?_; rintro e w' ⟨rfl, rfl⟩; clear F1)
      | (go_at_call 15; refine F2.out.mono ?_; rintro e w' ⟨rfl, rfl⟩)
      | (go_at_call 7; refine HA.out.mono ?_; rintro e w1 ⟨rfl, hw1⟩))
    go_ret
    exact ⟨rfl, hw1⟩
  · have e1 : decide (n ≤ 8) = false := decide_eq_false h1
    have F1 := Lib.hid (HF.out p n cp)
    rw [e1] at F1
    clear h h1
    go_enter Tryd.func4, Tryd.ntmps4
    go_wp2_with (first
      | (go_at_call 15; refine F1.out.mono ?_; rintro e w' ⟨rfl, rfl⟩)
      | (go_at_call 7; refine HA.out.mono ?_; rintro e w1 ⟨rfl, hw1⟩))
    go_ret
    exact ⟨rfl, hw1⟩
/-- the law's slices lie in memory -/
def LawS (w : World) (v u : Value) (l k : List (Nat → Int)) (vm vl : Value) (Rm Rl : List (Nat → Int)) (W : World) : Prop := Lies v l W ∧ Lies u k W ∧ Lies vm Rm W ∧ Lies vl Rl W ∧ Below w.heap.size w W
theorem LawS.below {w : World} {v u : Value} {l k : List (Nat → Int)} {vm vl : Value} {Rm Rl : List (Nat → Int)} {W W' : World} (s : LawS w v u l k vm vl Rm Rl W) (hb : Below W.heap.size W W') : LawS w v u l k vm vl Rm Rl W' :=
  ⟨s.1.below hb, s.2.1.below hb, s.2.2.1.below hb, s.2.2.2.1.below hb, s.2.2.2.2.trans (hb.mono s.2.2.2.2.size)⟩
set_option maxHeartbeats 4000000 in
set_option maxRecDepth 100000 in
theorem spaceLaws_few (p q : Option Addr) (cp cq : Nat) (l k : List (Nat → Int)) (hlen : l.length ≤ 8) (hlen' : k.length ≤ 8) (hw : WfL l) (hw' : WfL k) (w : World) (hl : Lies (.slice p l.length cp) l w) (hk : Lies (.slice q k.length cq) k w) (ht : Tab w) (hz : 0 < w.heap.size) :
    Calls Tryd.prog 4 #[.slice p l.length cp, .slice q k.length cq] w fun e w' => e = .returned (.bool true) ∧ Below w.heap.size w w' := by
  have F1 := Lib.hid (few_any p l.length cp w)
  have F2 := Lib.hid (few_any q k.length cq w)
  rw [decide_eq_true hlen] at F1
  rw [decide_eq_true hlen'] at F2
  have hE := Env.start ht hz
  have HA := Lib.hid (fun (W : World) (hb : Below w.heap.size w W) => sanswers W (hE.pred W hb).1 (hE.pred W hb).2)
  have HM := Lib.hid (smeet_of _ _ l k (by omega) (by omega) hw hw' w hl hk ht hz)
  have HL := Lib.hid (fun (W : World) (hb : Below w.heap.size w W) => sless_of _ _ l k (by omega) (by omega) hw hw' W (hl.below hb) (hk.below hb) (hE.pred W hb).1 (hE.pred W hb).2)
  have HW := Lib.hid (fun (v u : Value) (a b : List (Nat → Int)) (W : World) (ha : a.length ≤ 1000000) (hb' : b.length ≤ 1000000) (wa : WfL a) (wb : WfL b) (la : Lies v a W) (lb : Lies u b W) (hb : Below w.heap.size w W) => swithin_any v u a b ha hb' wa wb W la lb (hE.pred W hb).1 (hE.pred W hb).2)
  have HT := Lib.hid (fun (v u : Value) (a b : List (Nat → Int)) (W : World) (ha : a.length ≤ 1000000) (hb' : b.length ≤ 1000000) (wa : WfL a) (wb : WfL b) (la : Lies v a W) (lb : Lies u b W) (hb : Below w.heap.size w W) => stouch_any v u a b ha hb' wa wb W la lb (hE.pred W hb).1 (hE.pred W hb).2)
  have HAr := Lib.hid (And.intro hl hk)
  have HWf := Lib.hid (And.intro hw hw')
  clear hl hk hw hw' ht hE
  go_enter Tryd.func4, Tryd.ntmps4
  go_upto_region 3 with (first
    | (go_at_call 15; refine F1.out.mono ?_; rintro e w' ⟨rfl, rfl⟩; clear F1)
    | (go_at_call 15; refine F2.out.mono ?_; rintro e w' ⟨rfl, rfl⟩))
  clear F2
  go_upto_region 4 with (go_at_call 16; refine HM.out.mono ?_; rintro e w1 ⟨Rm, em, hmo, vm, rfl, ho1, hb1⟩)
  go_upto_region 5 with (go_at_call 17; refine (HL.out _ hb1).mono ?_; rintro e w2 ⟨Rl, el, hlo, vl, rfl, ho2, hb2⟩)
  obtain ⟨pm, cm, rfl⟩ := ho1.form
  obtain ⟨pl, cl', rfl⟩ := ho2.form
  have hb12 := hb1.trans (hb2.mono hb1.size)
  have HS := Lib.hid (show LawS w (.slice p l.length cp) (.slice q k.length cq) l k (.slice pm Rm.length cm) (.slice pl Rl.length cl') Rm Rl w2 from
    ⟨HAr.out.1.below hb12, HAr.out.2.below hb12, ho1.lies.below hb2, ho2.lies, hb12⟩)
  have HMo := Lib.hid hmo
  have HLo := Lib.hid hlo
  clear HM HL hb1 hb2 ho1 ho2 hmo hlo hb12 HAr
  rcases Bool.eq_false_or_eq_true (em != 0) with h1 | h1
  · have HA2 := Lib.hid (HA.out _ HS.out.2.2.2.2)
    go_wp2_with (go_at_call 7; refine HA2.out.mono ?_; rintro e w3 ⟨rfl, hw3⟩)
    go_ret
    exact ⟨rfl, HS.out.2.2.2.2.trans (hw3.mono HS.out.2.2.2.2.size)⟩
  rcases Bool.eq_false_or_eq_true (el != 0) with h2 | h2
  · have HA2 := Lib.hid (HA.out _ HS.out.2.2.2.2)
    go_wp2_with (go_at_call 7; refine HA2.out.mono ?_; rintro e w3 ⟨rfl, hw3⟩)
    go_ret
    exact ⟨rfl, HS.out.2.2.2.2.trans (hw3.mono HS.out.2.2.2.2.size)⟩
  have e1 : em = 0 := by simpa using h1
  have e2 : el = 0 := by simpa using h2
  subst e1 e2
  obtain ⟨wm, sm, nm⟩ := HMo.out.wf HWf.out.1 HWf.out.2
  obtain ⟨wl, sl, nl⟩ := HLo.out.wf HWf.out.1 HWf.out.2
  rcases Nat.lt_or_ge 64 (Rm.length + Rl.length) with h3 | h3
  · have hI : (64 : Int) < (Rm.length : Int) + (Rl.length : Int) := by omega
    have HA2 := Lib.hid (HA.out _ HS.out.2.2.2.2)
    go_wp2_with (go_at_call 7; refine HA2.out.mono ?_; rintro e w3 ⟨rfl, hw3⟩)
    go_ret
    exact ⟨rfl, HS.out.2.2.2.2.trans (hw3.mono HS.out.2.2.2.2.size)⟩
  have hI : ¬ (64 : Int) < (Rm.length : Int) + (Rl.length : Int) := by omega
  have sa := HMo.out.snd
  have hm := fun x (hx : Wf x) => HMo.out.has HWf.out.1 HWf.out.2 hx
  have hle := fun x (hx : Wf x) => HLo.out.has HWf.out.1 HWf.out.2 hx
  have wb := wm.append wl
  have sb := sndL_append sm sl h3
  have hboth : ∀ x, Wf x → hasL (Rm ++ Rl) x = hasL l x := fun x hx => by
    rw [hasL_append, hm x hx, hle x hx]
    cases hasL l x <;> cases hasL k x <;> rfl
  have T1 : touchL Rl k = false := bool_false fun h => by
    obtain ⟨x, hx, a, b⟩ := (touch_iff wl HWf.out.2).1 h
    rw [hle x hx, b] at a
    simp at a
  have T2 : touchL l k = decide (0 < Rm.length) := by
    rw [Bool.eq_iff_iff, touch_iff HWf.out.1 HWf.out.2, decide_eq_true_eq]
    constructor
    · rintro ⟨x, hx, a, b⟩
      have q := hm x hx
      rw [a, b] at q
      obtain ⟨c, hc, _⟩ := hasL_iff.1 q
      exact List.length_pos_of_mem hc
    · intro h
      obtain ⟨c, hc⟩ := List.exists_mem_of_length_pos h
      have q := hm c (wm c hc)
      rw [hasL_iff.2 ⟨c, hc, snd_has (wm c hc) (sm c hc)⟩] at q
      obtain ⟨a, b⟩ := Bool.and_eq_true_iff.1 q.symm
      exact ⟨c, wm c hc, a, b⟩
  have W1 := Lib.hid (fun (y : Bool) (err : Int) (h : WithinOf l (Rm ++ Rl) y err) => within_gives HWf.out.1 wb sa.1 sb (fun x hx h => by rw [hboth x hx]; exact h) h)
  have W2 := Lib.hid (fun (y : Bool) (err : Int) (h : WithinOf (Rm ++ Rl) l y err) => within_gives wb HWf.out.1 sb sa.1 (fun x hx h => by rw [← hboth x hx]; exact h) h)
  have hlb : (Rm ++ Rl).length ≤ 1000000 := by rw [List.length_append]; omega
  obtain ⟨Rb, hRb⟩ : ∃ Rb, Rb = Rm ++ Rl := ⟨_, rfl⟩
  rw [← hRb] at W1 W2 hlb wb
  have HRb := Lib.hid hRb
  have HWl := Lib.hid (And.intro wl wb)
  clear sm sl hm hle hboth sa sb HMo HLo wm wl wb h1 h2 hRb
  have C1 := Lib.hid (fun (v : Value) (W : World) (lv : Lies v Rb W) (s : LawS w (.slice p l.length cp) (.slice q k.length cq) l k (.slice pm Rm.length cm) (.slice pl Rl.length cl') Rm Rl W) => HW.out (.slice p l.length cp) v l Rb W (by omega) hlb HWf.out.1 HWl.out.2 s.1 lv s.2.2.2.2)
  have C2 := Lib.hid (fun (v : Value) (W : World) (lv : Lies v Rb W) (s : LawS w (.slice p l.length cp) (.slice q k.length cq) l k (.slice pm Rm.length cm) (.slice pl Rl.length cl') Rm Rl W) => HW.out v (.slice p l.length cp) Rb l W hlb (by omega) HWl.out.2 HWf.out.1 lv s.1 s.2.2.2.2)
  have C3 := Lib.hid (fun (W : World) (s : LawS w (.slice p l.length cp) (.slice q k.length cq) l k (.slice pm Rm.length cm) (.slice pl Rl.length cl') Rm Rl W) => HT.out (.slice pl Rl.length cl') (.slice q k.length cq) Rl k W (by omega) (by omega) HWl.out.1 HWf.out.2 s.2.2.2.1 s.2.1 s.2.2.2.2)
  have C4 := Lib.hid (fun (W : World) (s : LawS w (.slice p l.length cp) (.slice q k.length cq) l k (.slice pm Rm.length cm) (.slice pl Rl.length cl') Rm Rl W) => HT.out (.slice p l.length cp) (.slice q k.length cq) l k W (by omega) (by omega) HWf.out.1 HWf.out.2 s.1 s.2.1 s.2.2.2.2)
  rw [T1] at C3
  rw [T2] at C4
  clear HW HT T1 T2 HWf HWl
  have HS1 := Lib.hid (HS.out.below (below1 w2 (.cells #[] 30)))
  go_upto_region 8 with (first
    | (refine buildNone rfl rfl ?_)
    | (refine appendL rfl (.tmp 50) (.tmp 51) rfl w2.heap.size _ [] Rm rfl (Owns.built w2 _ (Nat.le_refl _)) _ rfl HS1.out.2.2.1 (by simp) (by simp; omega) (fun v5 w5 ho5 hg5 _ => ?_); have hb5 := belowOwn (below1 w2 (.cells #[] 30)) (Owns.built w2 _ (Nat.le_refl _)) (Nat.le_refl _) hg5; have HS5 := Lib.hid (HS.out.below hb5); have H5 := Lib.hid (And.intro ho5 hb5); clear ho5 hg5 hb5)
    | (refine appendL rfl (.tmp 52) (.tmp 53) rfl w2.heap.size _ ([] ++ Rm) Rl rfl H5.out.1 _ rfl HS5.out.2.2.2.1 H5.out.2.size (by simpa using (show Rm.length + Rl.length ≤ 1000000 by omega)) (fun v6 w6 ho6 hg6 _ => ?_); have hb6 := belowOwn H5.out.2 H5.out.1 (Nat.le_refl _) hg6; have HS6 := Lib.hid (HS.out.below hb6); have H6 := Lib.hid (show Lies v6 Rb w6 from by rw [HRb.out]; exact ho6.lies); clear ho6 hg6 hb6))
  clear H5 HS5 HS1 HS
  obtain ⟨pb, cb, rfl⟩ := H6.out.form
  go_upto_region 9 with (go_at_call 18; refine (C1.out _ _ H6.out HS6.out).mono ?_; rintro e w7 ⟨x, g, hx, rfl, hb7⟩)
  have hx1 := W1.out x g hx
  have HS7 := Lib.hid (HS6.out.below hb7)
  have H7 := Lib.hid (H6.out.below hb7)
  clear hb7 HS6 H6 hx W1 C1
  go_upto_region 10 with (go_at_call 18; refine (C2.out _ _ H7.out HS7.out).mono ?_; rintro e w8 ⟨y, h, hy, rfl, hb8⟩)
  have hy1 := W2.out y h hy
  have HS8 := Lib.hid (HS7.out.below hb8)
  clear hb8 HS7 H7 hy W2 C2
  have cx : (g != 0) = true ∨ (g != 0) = false ∧ x = true := by
    cases hg : (g != 0)
    · rw [hg] at hx1; exact .inr ⟨rfl, by simpa using hx1⟩
    · exact .inl rfl
  have cy : (h != 0) = true ∨ (h != 0) = false ∧ y = true := by
    cases hg : (h != 0)
    · rw [hg] at hy1; exact .inr ⟨rfl, by simpa using hy1⟩
    · exact .inl rfl
  clear hx1 hy1
  have HA2 := Lib.hid (HA.out _ HS8.out.2.2.2.2)
  have hpos : decide ((0 : Int) < (Rm.length : Int)) = decide (0 < Rm.length) := by
    rw [Bool.eq_iff_iff, decide_eq_true_eq, decide_eq_true_eq]; omega
  generalize hd : decide (0 < Rm.length) = d0 at *
  rcases cx with hg | ⟨hg, rfl⟩ <;> rcases cy with hh | ⟨hh, rfl⟩ <;> cases d0
  all_goals
    go_wp2_with (first
      | (go_at_call 7; refine HA2.out.mono ?_; rintro e w9 ⟨rfl, hw9⟩; have HS9 := Lib.hid (HS8.out.below hw9); clear hw9 HA2)
      | (go_at_call 19; refine (C3.out _ HS9.out).mono ?_; rintro e w10 ⟨rfl, hw10⟩; have HS10 := Lib.hid (HS9.out.below hw10); clear hw10 C3)
      | (go_at_call 19; refine (C4.out _ HS10.out).mono ?_; rintro e w11 ⟨rfl, hw11⟩))
    go_ret
    exact ⟨rfl, (HS10.out.below hw11).2.2.2.2⟩
theorem spaceLaws_any (w : World) (ht : Tab w) (hz : 0 < w.heap.size) (v : Value) (l : List (Nat → Int)) (hl : Lies v l w) (hw : WfL l) (u : Value) (k : List (Nat → Int)) (hk : Lies u k w) (hw' : WfL k) :
    Calls Tryd.prog 4 #[v, u] w fun e w' => e = .returned (.bool true) ∧ Below w.heap.size w w' := by
  obtain ⟨p, cp, rfl⟩ := hl.form
  obtain ⟨q, cq, rfl⟩ := hk.form
  cases h : Many l.length k.length
  · unfold Many at h
    simp at h
    exact spaceLaws_few p q cp cq l k h.1 h.2 hw hw' w hl hk ht hz
  · exact spaceLaws_many p q cp cq _ _ w ht hz h
end Go.Proofs.YtamjaohoicedfaaDoor
