/-
  Slices of cubes that lie in memory; the walks of slices.IndexFunc and slices.ContainsFunc over any condition on a cube.
-/
import Derived.Test.YtamjaohoicedfaaDoorCubePar
import Derived.Maps.AppendAt
import Derived.Laws.AppendOwnNone
import Derived.Shelf.Abstract
namespace Go.Proofs.YtamjaohoicedfaaDoor
open Go.RowKit

/-- a slice holds a list of cubes that lie in memory -/
def Lies (v : Value) (l : List (Nat → Int)) (W : World) : Prop :=
  (v = .slice none 0 0 ∧ l = []) ∨ ∃ (ad : Addr) (cap : Nat), v = .slice (some ad) l.length cap ∧ l.length ≤ cap ∧ ∀ i, i < l.length → ad.spot = none ∧ W.rangeAt ad.block (ad.off + i * 24) (cl (nth l i))
theorem rangeLt {W : World} {b o : Nat} {a : Nat → Int} (h : W.rangeAt b o (cl a)) : b < W.heap.size := World.block_lt_of_cell? _ _ (h 0 _ (cl_head _))
theorem rangeBelow {W W' : World} {b o : Nat} {a : Nat → Int} (h : W.rangeAt b o (cl a)) (hb : Below W.heap.size W W') : W'.rangeAt b o (cl a) := fun j v hv => (hb.cell (p := ⟨b, o + j, none⟩) (rangeLt h)).trans (h j v hv)
section
variable {v : Value} {p : Option Addr} {n cap : Nat} {l : List (Nat → Int)} {W W' : World}
theorem Lies.below (h : Lies v l W) (hb : Below W.heap.size W W') : Lies v l W' := by
  rcases h with h | ⟨ad, cap, h1, h2, h3⟩
  · exact .inl h
  · exact .inr ⟨ad, cap, h1, h2, fun i hi => ⟨(h3 i hi).1, rangeBelow (h3 i hi).2 hb⟩⟩
theorem Lies.form (h : Lies v l W) : ∃ p cap, v = .slice p l.length cap := by
  rcases h with ⟨h1, h2⟩ | ⟨ad, cap, h1, _⟩
  · exact ⟨none, 0, by rw [h1, h2]; rfl⟩
  · exact ⟨_, cap, h1⟩
theorem Lies.at (h : Lies (.slice p n cap) l W) {i : Nat} (hi : i < l.length) : ∃ b o, p = some ⟨b, o, none⟩ ∧ W.rangeAt b (o + i * 24) (cl (nth l i)) := by
  rcases h with ⟨_, h2⟩ | ⟨⟨b, o, sp⟩, cap, h1, _, h3⟩
  · rw [h2] at hi; exact absurd hi (by simp)
  · injection h1 with h1 _ _
    obtain ⟨e, h4⟩ := h3 i hi
    have e' : sp = none := e
    subst e'
    exact ⟨b, o, h1, h4⟩
theorem Lies.at' {b o : Nat} (h : Lies (.slice (some ⟨b, o, none⟩) n cap) l W) {i : Nat} (hi : i < l.length) : W.rangeAt b (o + i * 24) (cl (nth l i)) := by
  obtain ⟨b', o', e, h⟩ := h.at hi
  injection e with e
  injection e with e1 e2
  rw [e1, e2]; exact h
theorem Owns.lies {base : Nat} (h : Owns base v l W) : Lies v l W := by
  rcases h.2 with ⟨h1, h2⟩ | ⟨g, cap, cur, h1, _, _, h4, _⟩
  · exact .inl ⟨h1, List.length_eq_zero_iff.1 h2⟩
  · subst h1
    exact .inr ⟨⟨g, 0, none⟩, cap, rfl, h4, fun i hi => ⟨rfl, by rw [Nat.zero_add]; exact Owns.range h i hi⟩⟩
end
/-- a function value answers a condition on a cube, in every world from one on -/
def Pred (g : Nat) (cb : Array Value) (q : (Nat → Int) → Bool) (w : World) : Prop :=
  ∀ W, Below w.heap.size w W → ∀ c, Wf c → Calls Tryd.prog g (#[.agg (cc c)] ++ cb) W fun e w' => e = .returned (.bool (q c)) ∧ Below W.heap.size W w'
theorem Pred.below {g : Nat} {cb : Array Value} {q : (Nat → Int) → Bool} {w W : World} (h : Pred g cb q w) (hb : Below w.heap.size w W) : Pred g cb q W := fun W' hW' => h W' (hb.trans (hW'.mono hb.size))
/-- every cube of a list is made of numbers -/
def WfL (l : List (Nat → Int)) : Prop := ∀ x ∈ l, Wf x
theorem WfL.nth {l : List (Nat → Int)} (h : WfL l) {i : Nat} (hi : i < l.length) : Wf (nth l i) := h _ (nth_mem hi)
/-- the place of the first cube that meets a condition, or -1 -/
def idxL (q : (Nat → Int) → Bool) (l : List (Nat → Int)) : Int := match l.findIdx? q with
  | some i => i
  | none => -1
theorem idxL_hit {q : (Nat → Int) → Bool} {l : List (Nat → Int)} {i : Nat} (hi : i < l.length) (h1 : q (nth l i) = true) (h2 : ∀ j, j < i → q (nth l j) = false) : idxL q l = i := by
  have : l.findIdx? q = some i := by
    rw [List.findIdx?_eq_some_iff_getElem]
    refine ⟨hi, ?_, fun j hj => ?_⟩
    · simpa [nth, List.getD_eq_getElem?_getD, List.getElem?_eq_getElem hi] using h1
    · have hj' : j < l.length := by omega
      simpa [nth, List.getD_eq_getElem?_getD, List.getElem?_eq_getElem hj'] using h2 j hj
  unfold idxL
  rw [this]
theorem idxL_none {q : (Nat → Int) → Bool} {l : List (Nat → Int)} (h2 : ∀ j, j < l.length → q (nth l j) = false) : idxL q l = -1 := by
  have : l.findIdx? q = none := by
    rw [List.findIdx?_eq_none_iff]
    intro x hx
    obtain ⟨j, hj, rfl⟩ := List.mem_iff_getElem.1 hx
    simpa [nth, List.getD_eq_getElem?_getD, List.getElem?_eq_getElem hj] using h2 j hj
  unfold idxL
  rw [this]
theorem idxL_any (q : (Nat → Int) → Bool) (l : List (Nat → Int)) : decide (0 ≤ idxL q l) = l.any q := by
  unfold idxL
  cases h : l.findIdx? q with
  | none =>
    rw [List.findIdx?_eq_none_iff] at h
    have : l.any q = false := by rw [List.any_eq_false]; intro x hx; simp [h x hx]
    rw [this]; rfl
  | some i =>
    rw [List.findIdx?_eq_some_iff_getElem] at h
    obtain ⟨hi, h1, _⟩ := h
    have : l.any q = true := List.any_eq_true.2 ⟨_, List.getElem_mem hi, h1⟩
    rw [this]
    simp
set_option maxHeartbeats 1000000 in
theorem index_any (g : Nat) (cb : Array Value) (q : (Nat → Int) → Bool) (eg : ∀ args w, (callFunc g args).run Tryd.prog w = .ok (.enter g args) w) (p : Option Addr) (cap : Nat) (l : List (Nat → Int)) (hlen : l.length ≤ 1000000) (hw : WfL l) (w : World)
    (hl : Lies (.slice p l.length cap) l w) (hp : Pred g cb q w) :
    Calls Tryd.prog 45 #[.slice p l.length cap, .func (.func g) #[] cb] w fun e w' => e = .returned (.int .i64 (idxL q l)) ∧ Below w.heap.size w w' := by
  have HL := Lib.hid hl
  have HP := Lib.hid hp
  have HW := Lib.hid hw
  clear hl hp hw
  go_enter Tryd.func45, Tryd.ntmps45
  go_wp2
  go_loopg [8] l.length (fun k i wr => ∃ r : Nat, r + k = l.length ∧ i = .int .i64 r ∧ (∀ j, j < r → q (nth l j) = false) ∧ Below w.heap.size w wr)
  case atStart => exact ⟨0, by omega, rfl, fun j h => absurd h (by omega), Below.refl _ _⟩
  case round =>
    obtain ⟨r, hr, rfl, hq, hb⟩ := hrel
    have HQ := Lib.hid hq
    have HB := Lib.hid hb
    clear hq hb
    by_cases hlt : r < l.length
    · have hltI : (r : Int) < (l.length : Int) := by omega
      obtain ⟨b, o, rfl, hrg⟩ := (HL.out.below HB.out).at hlt
      have HR := Lib.hid hrg
      have HC := Lib.hid (HP.out wr HB.out (nth l r) (HW.out.nth hlt))
      clear hrg
      cases hq : q (nth l r)
      · rw [hq] at HC
        have HH := Lib.hid hq
        clear hq
        go_wp2_with (first
          | (refine wpList_load_mid rfl 30 _ rfl b (o + r * 24) rfl (cl (nth l r)) _ HR.out Tryd.underlying30 rfl infoCube ?_)
          | (go_at_fn g; refine HC.out.mono ?_; rintro e w1 ⟨rfl, hw1⟩))
        have HB1 := Lib.hid (HB.out.trans (hw1.mono HB.out.size))
        clear hw1 HC HR
        go_roundg (l.length - (r + 1))
        case measure => omega
        case rel =>
          refine ⟨r + 1, by omega, by go_num, fun j hj => ?_, HB1.out⟩
          by_cases e : j = r
          · rw [e]; exact HH.out
          · exact HQ.out j (by omega)
      · rw [hq] at HC
        have HH := Lib.hid (idxL_hit hlt hq HQ.out)
        clear hq
        go_wp2_with (first
          | (refine wpList_load_mid rfl 30 _ rfl b (o + r * 24) rfl (cl (nth l r)) _ HR.out Tryd.underlying30 rfl infoCube ?_)
          | (go_at_fn g; refine HC.out.mono ?_; rintro e w1 ⟨rfl, hw1⟩))
        have HB1 := Lib.hid (HB.out.trans (hw1.mono HB.out.size))
        clear hw1 HC HR
        go_ret
        exact ⟨ret_int HH.out.symm, HB1.out⟩
    · have hltI : ¬ (r : Int) < (l.length : Int) := by omega
      have HH := Lib.hid (idxL_none (q := q) (l := l) fun j hj => HQ.out j (by omega))
      go_wp2
      go_ret
      exact ⟨ret_int HH.out.symm, HB.out⟩
theorem contains_any (g : Nat) (cb : Array Value) (q : (Nat → Int) → Bool) (eg : ∀ args w, (callFunc g args).run Tryd.prog w = .ok (.enter g args) w) (v : Value) (l : List (Nat → Int)) (hlen : l.length ≤ 1000000) (hw : WfL l) (w : World)
    (hl : Lies v l w) (hp : Pred g cb q w) :
    Calls Tryd.prog 24 #[v, .func (.func g) #[] cb] w fun e w' => e = .returned (.bool (l.any q)) ∧ Below w.heap.size w w' := by
  obtain ⟨p, cap, rfl⟩ := hl.form
  have HI := Lib.hid (index_any g cb q eg p cap l hlen hw w hl hp)
  have HA := Lib.hid (idxL_any q l)
  clear hl hp hw
  generalize idxL q l = i at *
  go_enter Tryd.func24, Tryd.ntmps24
  go_wp2_with (go_at_call 45; refine HI.out.mono ?_; rintro e w1 ⟨rfl, hw1⟩)
  go_ret
  exact ⟨ret_bool HA.out, hw1⟩
end Go.Proofs.YtamjaohoicedfaaDoor
