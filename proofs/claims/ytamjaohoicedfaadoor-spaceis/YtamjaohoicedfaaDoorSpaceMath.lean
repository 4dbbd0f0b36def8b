/-
  Which headers are in what Lean, Meet and Less of package space give.
-/
import Derived.Test.YtamjaohoicedfaaDoorSpaceLes
import Derived.Test.YtamjaohoicedfaaDoorCubeSetM
import Derived.Test.YtamjaohoicedfaaDoorRefEq
namespace Go.Proofs.YtamjaohoicedfaaDoor
open Go.RowKit

/-- is a header in a space? -/
def hasL (l : List (Nat → Int)) (h : Nat → Int) : Bool := l.any fun c => hasB c h
theorem hasL_append (l k : List (Nat → Int)) (h : Nat → Int) : hasL (l ++ k) h = (hasL l h || hasL k h) := by simp [hasL]
theorem hasL_iff {l : List (Nat → Int)} {h : Nat → Int} : hasL l h = true ↔ ∃ c ∈ l, hasB c h = true := by simp [hasL]
theorem hasB_snd {c h : Nat → Int} (e : hasB c h = true) : csnd c = true := by
  cases hs : csnd c
  · rw [hasB_cube hs] at e; cases e
  · rfl
theorem hasL_filter (l : List (Nat → Int)) (h : Nat → Int) : hasL (l.filter csnd) h = hasL l h := by
  rw [Bool.eq_iff_iff, hasL_iff, hasL_iff]
  constructor
  · rintro ⟨c, hc, e⟩
    exact ⟨c, (List.mem_filter.1 hc).1, e⟩
  · rintro ⟨c, hc, e⟩
    exact ⟨c, List.mem_filter.2 ⟨hc, hasB_snd e⟩, e⟩
theorem hasL_perm {l k : List (Nat → Int)} (hp : l.Perm k) (h : Nat → Int) : hasL l h = hasL k h := by
  rw [Bool.eq_iff_iff, hasL_iff, hasL_iff]
  constructor
  · rintro ⟨c, hc, e⟩; exact ⟨c, hp.mem_iff.1 hc, e⟩
  · rintro ⟨c, hc, e⟩; exact ⟨c, hp.mem_iff.2 hc, e⟩
/-- firstOfLean with no bound -/
def leanAll : List (Nat → Int) → List (Nat → Int) → List (Nat → Int)
  | [], out => out
  | c :: r, out => if out.any (fun d => inB c d) then leanAll r out else leanAll r (out ++ [c])
theorem leanGo_all (m : Nat) : ∀ (L out : List (Nat → Int)), L.length + out.length ≤ m → leanGo m L out = leanAll L out
  | [], _, _ => rfl
  | c :: L, out, h => by
    have hm : out.length ≠ m := by simp at h; omega
    cases hi : out.any fun d => inB c d
    · rw [leanGo_new hm hi, leanAll, hi, leanGo_all m L (out ++ [c]) (by simp at h ⊢; omega)]
      rfl
    · rw [leanGo_in hm hi, leanAll, hi, leanGo_all m L out (by simp at h ⊢; omega)]
      rfl
theorem leanGo_ge (m : Nat) : ∀ (L out : List (Nat → Int)), out.length ≤ (leanGo m L out).length
  | [], _ => Nat.le_refl _
  | c :: L, out => by
    unfold leanGo
    split
    · exact Nat.le_refl _
    · split
      · exact leanGo_ge m L out
      · have := leanGo_ge m L (out ++ [c])
        simp at this
        omega
theorem leanGo_lt (m : Nat) : ∀ (L out : List (Nat → Int)), (leanGo m L out).length < m → leanGo m L out = leanAll L out
  | [], _, _ => rfl
  | c :: L, out, h => by
    have hm : out.length ≠ m := by have := leanGo_ge m (c :: L) out; omega
    cases hi : out.any fun d => inB c d
    · rw [leanGo_new hm hi] at h ⊢
      rw [leanAll, hi, leanGo_lt m L (out ++ [c]) h]
      rfl
    · rw [leanGo_in hm hi] at h ⊢
      rw [leanAll, hi, leanGo_lt m L out h]
      rfl
theorem in_has {c d h : Nat → Int} (hc : Wf c) (hd : Wf d) (hh : Wf h) (hi : inB c d = true) (e : hasB c h = true) : hasB d h = true := by
  obtain ⟨_, sd, ex⟩ := (in_iff hc hd).1 hi
  exact has_ext hd hc hh sd ex e
theorem leanAll_has {h : Nat → Int} (hh : Wf h) : ∀ (L out : List (Nat → Int)), WfL L → WfL out → hasL (leanAll L out) h = (hasL out h || hasL L h)
  | [], out, _, _ => by simp [leanAll, hasL]
  | c :: L, out, hL, ho => by
    have hc : Wf c := hL c (by simp)
    have hL' : WfL L := fun x hx => hL x (by simp [hx])
    have e : hasL (c :: L) h = (hasB c h || hasL L h) := by simp [hasL]
    unfold leanAll
    cases hi : out.any fun d => inB c d
    · rw [if_neg (by simp), leanAll_has hh L (out ++ [c]) hL' (fun x hx => by
        rcases List.mem_append.1 hx with hx | hx
        · exact ho x hx
        · rw [List.mem_singleton.1 hx]; exact hc), hasL_append, e]
      simp [hasL, Bool.or_assoc]
    · rw [if_pos rfl, leanAll_has hh L out hL' ho, e]
      obtain ⟨d, hd, hin⟩ := List.any_eq_true.1 hi
      cases hb : hasB c h
      · rfl
      · have : hasL out h = true := hasL_iff.2 ⟨d, hd, in_has hc (ho d hd) hh hin hb⟩
        rw [this]; rfl
theorem LeanOf.all {l R : List (Nat → Int)} (h : LeanOf l R) : ∃ L, L.Perm (l.filter csnd) ∧ Sorted L ∧ R = leanAll L [] := by
  obtain ⟨L, h1, h2, rfl⟩ := h
  refine ⟨L, h1, h2, leanGo_all _ _ _ ?_⟩
  have := h1.length_eq
  have := List.length_filter_le csnd l
  simp
  omega
theorem FitsOf.all {F R : List (Nat → Int)} (h : FitsOf F R 0) : ∃ L, L.Perm F ∧ Sorted L ∧ R = leanAll L [] := by
  obtain ⟨L, h1, h2, ⟨_, _, h4⟩ | ⟨h3, rfl, _⟩⟩ := h
  · cases h4
  · exact ⟨L, h1, h2, leanGo_lt _ _ _ (by omega)⟩
theorem LeanOf.has {l R : List (Nat → Int)} (h : LeanOf l R) (hl : WfL l) {x : Nat → Int} (hx : Wf x) : hasL R x = hasL l x := by
  obtain ⟨L, h1, _, rfl⟩ := h.all
  rw [leanAll_has hx L [] (fun y hy => hl y (List.mem_filter.1 (h1.mem_iff.1 hy)).1) (fun y hy => by cases hy), hasL_perm h1, hasL_filter]
  simp [hasL]
theorem FitsOf.has {F R : List (Nat → Int)} (h : FitsOf (F.filter csnd) R 0) (hF : WfL F) {x : Nat → Int} (hx : Wf x) : hasL R x = hasL F x := by
  obtain ⟨L, h1, _, rfl⟩ := h.all
  rw [leanAll_has hx L [] (fun y hy => hF y (List.mem_filter.1 (h1.mem_iff.1 hy)).1) (fun y hy => by cases hy), hasL_perm h1, hasL_filter]
  simp [hasL]
theorem meets_has {l k : List (Nat → Int)} (hl : WfL l) (hk : WfL k) {h : Nat → Int} (hh : Wf h) : hasL (meetsL l k) h = (hasL l h && hasL k h) := by
  rw [Bool.eq_iff_iff, Bool.and_eq_true_iff, hasL_iff, hasL_iff, hasL_iff]
  constructor
  · rintro ⟨x, hx, e⟩
    unfold meetsL meets1 at hx
    obtain ⟨c, hc, hx⟩ := List.mem_flatMap.1 hx
    obtain ⟨d, hd, e'⟩ := List.mem_filterMap.1 hx
    split at e'
    · rename_i hm
      injection e' with e'
      subst e'
      have := has_met (hl c hc) (hk d hd) hh
      rw [hm, e] at this
      obtain ⟨a, b⟩ := Bool.and_eq_true_iff.1 this.symm
      exact ⟨⟨c, hc, a⟩, ⟨d, hd, b⟩⟩
    · cases e'
  · rintro ⟨⟨c, hc, a⟩, ⟨d, hd, b⟩⟩
    have := has_met (hl c hc) (hk d hd) hh
    rw [a, b] at this
    obtain ⟨hm, e⟩ := Bool.and_eq_true_iff.1 this
    refine ⟨metV c d, ?_, e⟩
    unfold meetsL meets1
    exact List.mem_flatMap.2 ⟨c, hc, List.mem_filterMap.2 ⟨d, hd, by rw [if_pos hm]⟩⟩
theorem less_has {c d h : Nat → Int} (hc : Wf c) (hd : Wf d) (hh : Wf h) (sd : csnd d = true) : hasL (lessL c d) h = (hasB c h && !hasB d h) := by
  have e := less_count hc hd hh
  rw [sd, Bool.and_true] at e
  unfold cntH at e
  cases hb : (hasB c h && !hasB d h)
  · rw [hb] at e
    have e0 : (lessL c d).countP (fun x => hasB x h) = 0 := e
    rw [List.countP_eq_zero] at e0
    unfold hasL
    rw [List.any_eq_false]
    exact e0
  · rw [hb] at e
    have e1 : 0 < (lessL c d).countP (fun x => hasB x h) := by rw [e]; decide
    rw [List.countP_pos_iff] at e1
    obtain ⟨x, hx, hx'⟩ := e1
    exact hasL_iff.2 ⟨x, hx, hx'⟩
theorem pieces_has {left : List (Nat → Int)} {d h : Nat → Int} (hl : WfL left) (hd : Wf d) (hh : Wf h) (sd : csnd d = true) : hasL (pieces left d) h = (hasL left h && !hasB d h) := by
  rw [Bool.eq_iff_iff, Bool.and_eq_true_iff, hasL_iff, hasL_iff]
  constructor
  · rintro ⟨x, hx, e⟩
    unfold pieces at hx
    obtain ⟨c, hc, hx⟩ := List.mem_flatMap.1 hx
    have q := less_has (hl c hc) hd hh sd
    rw [hasL_iff.2 ⟨x, hx, e⟩] at q
    obtain ⟨a, b⟩ := Bool.and_eq_true_iff.1 q.symm
    exact ⟨⟨c, hc, a⟩, b⟩
  · rintro ⟨⟨c, hc, a⟩, b⟩
    have q := less_has (hl c hc) hd hh sd
    rw [a, b] at q
    obtain ⟨x, hx, e⟩ := hasL_iff.1 q
    refine ⟨x, ?_, e⟩
    unfold pieces
    exact List.mem_flatMap.2 ⟨c, hc, hx⟩
theorem LessGo.has {k left R : List (Nat → Int)} {err : Int} (g : LessGo k left R err) : err = 0 → WfL k → WfL left → (∀ d ∈ k, csnd d = true) → ∀ h, Wf h → hasL R h = (hasL left h && !hasL k h) := by
  induction g with
  | done left => intro _ _ _ _ h _; simp [hasL]
  | full _ => intro e; cases e
  | @step d r left left' R err hf _ ih =>
    intro e hk hl hs h hh
    have hd : Wf d := hk d (by simp)
    have hl' : WfL left' := fun x hx => pieces_wf hl hd x (List.mem_filter.1 (hf.sub x hx)).1
    rw [ih e (fun x hx => hk x (by simp [hx])) hl' (fun x hx => hs x (by simp [hx])) h hh, hf.has (pieces_wf hl hd) hh, pieces_has hl hd hh (hs d (by simp))]
    simp [hasL, Bool.and_assoc]
theorem LessGo.facts {k left R : List (Nat → Int)} {err : Int} (g : LessGo k left R err) : WfL k → WfL left → (∀ x ∈ left, csnd x = true) → left.length ≤ 64 → WfL R ∧ (∀ x ∈ R, csnd x = true) ∧ R.length ≤ 64 ∧ (err = 0 ∨ err = 3) := by
  induction g with
  | done left => intro _ hl hs hn; exact ⟨hl, hs, hn, .inl rfl⟩
  | full _ => intro _ _ _ _; exact ⟨fun x hx => (by cases hx), fun x hx => (by cases hx), by simp, .inr rfl⟩
  | @step d r left left' R err hf _ ih =>
    intro hk hl _ _
    have hd : Wf d := hk d (by simp)
    exact ih (fun x hx => hk x (by simp [hx])) (fun x hx => pieces_wf hl hd x (List.mem_filter.1 (hf.sub x hx)).1) (fun x hx => (List.mem_filter.1 (hf.sub x hx)).2) hf.len
theorem FitsOf.wf {F R : List (Nat → Int)} {err : Int} (h : FitsOf (F.filter csnd) R err) (hF : WfL F) : WfL R ∧ ∀ x ∈ R, csnd x = true :=
  ⟨fun x hx => hF x (List.mem_filter.1 (h.sub x hx)).1, fun x hx => (List.mem_filter.1 (h.sub x hx)).2⟩
/-- a sound cube has a header: its own value -/
theorem snd_has {c : Nat → Int} (hc : Wf c) (s : csnd c = true) : hasB c c = true := by
  refine (has_iff hc hc).2 ⟨s, ?_, fun _ _ _ _ => rfl⟩
  unfold csnd at s
  exact (Bool.and_eq_true_iff.1 (Bool.and_eq_true_iff.1 s).1).2
theorem none_left {R : List (Nat → Int)} (hR : WfL R) (hs : ∀ x ∈ R, csnd x = true) (h : ∀ x, Wf x → hasL R x = false) : R = [] := by
  cases R with
  | nil => rfl
  | cons c R =>
    have hc := hR c (by simp)
    have := h c hc
    rw [hasL_iff.2 ⟨c, by simp, snd_has hc (hs c (by simp))⟩] at this
    cases this
theorem touch_iff {l k : List (Nat → Int)} (hl : WfL l) (hk : WfL k) : touchL l k = true ↔ ∃ h, Wf h ∧ hasL l h = true ∧ hasL k h = true := by
  unfold touchL
  constructor
  · intro e
    obtain ⟨c, hc, e⟩ := List.any_eq_true.1 e
    obtain ⟨d, hd, e⟩ := List.any_eq_true.1 e
    have wc := hl c hc
    have wd := hk d hd
    obtain ⟨sc, sd, _⟩ := (met_iff wc wd).1 e
    have wm := metV_wf wc wd
    have sm : csnd (metV c d) = true := by rw [metV_yes e]; exact orC_snd wc wd sc sd
    have q := has_met wc wd wm
    rw [e, snd_has wm sm] at q
    obtain ⟨a, b⟩ := Bool.and_eq_true_iff.1 q.symm
    exact ⟨metV c d, wm, hasL_iff.2 ⟨c, hc, a⟩, hasL_iff.2 ⟨d, hd, b⟩⟩
  · rintro ⟨h, hh, a, b⟩
    obtain ⟨c, hc, a⟩ := hasL_iff.1 a
    obtain ⟨d, hd, b⟩ := hasL_iff.1 b
    exact List.any_eq_true.2 ⟨c, hc, List.any_eq_true.2 ⟨d, hd, both_met (hl c hc) (hk d hd) hh a b⟩⟩
theorem sndL_iff {l : List (Nat → Int)} : sndL l = true ↔ l.length ≤ 64 ∧ ∀ x ∈ l, csnd x = true := by
  unfold sndL
  rw [Bool.and_eq_true_iff, decide_eq_true_eq, List.all_eq_true]
/-- what Less gives where it gives no error -/
theorem less_gives {l k left R : List (Nat → Int)} (hl : WfL l) (hk : WfL k) (sl : sndL l = true) (sk : sndL k = true) (h1 : LeanOf l left) (h2 : LessGo k left R 0) :
    WfL R ∧ (∀ x ∈ R, csnd x = true) ∧ R.length ≤ 64 ∧ ∀ h, Wf h → hasL R h = (hasL l h && !hasL k h) := by
  have wl : WfL left := fun x hx => hl x (h1.sub x hx).1
  have f := h2.facts hk wl (fun x hx => (h1.sub x hx).2) (Nat.le_trans h1.len (sndL_iff.1 sl).1)
  refine ⟨f.1, f.2.1, f.2.2.1, fun h hh => ?_⟩
  rw [h2.has rfl hk wl (sndL_iff.1 sk).2 h hh, h1.has hl hh]
/-- all headers of a space are in another: Within says so, or there are too many cubes -/
theorem within_gives {l k : List (Nat → Int)} {y : Bool} {err : Int} (hl : WfL l) (hk : WfL k) (sl : sndL l = true) (sk : sndL k = true) (hin : ∀ h, Wf h → hasL l h = true → hasL k h = true) (hw : WithinOf l k y err) : (err != 0 || y) = true := by
  rcases hw with ⟨h, _⟩ | ⟨_, left, R, h1, h2, rfl⟩
  · rw [sl, sk] at h; cases h
  · by_cases e : err = 0
    · subst e
      obtain ⟨a, b, _, d⟩ := less_gives hl hk sl sk h1 h2
      have : R = [] := none_left a b fun x hx => by
        rw [d x hx]
        cases h : hasL l x
        · rfl
        · rw [hin x hx h]; rfl
      rw [this]; rfl
    · simp [e]
end Go.Proofs.YtamjaohoicedfaaDoor
