/-
  The walk of the law CubeParts.
-/
import Derived.Test.YtamjaohoicedfaaDoorCubeLes
import Derived.Test.YtamjaohoicedfaaDoorCubeParM
import Derived.Test.YtamjaohoicedfaaDoorCubeOrd
import Derived.Deep.DeepCutAuto
namespace Go.Proofs.YtamjaohoicedfaaDoor
open Go.RowKit

/-- a list's element, a cube -/
def nth (l : List (Nat → Int)) (i : Nat) : Nat → Int := l.getD i zh
theorem nth_mem {l : List (Nat → Int)} {i : Nat} (h : i < l.length) : nth l i ∈ l := by
  unfold nth
  rw [List.getD_eq_getElem?_getD, List.getElem?_eq_getElem h]
  exact List.getElem_mem h
theorem flat_at : ∀ (l : List (Nat → Int)) (i : Nat), i < l.length → ∀ j v, (cl (nth l i))[j]? = some v → (flat l)[i * 24 + j]? = some v
  | [], i, h => absurd h (by simp)
  | a :: l, 0, _ => fun j v hv => by
    have hj : j < (cl a).length := (List.getElem?_eq_some_iff.1 hv).1
    show (cl a ++ flat l)[0 * 24 + j]? = some v
    rw [Nat.zero_mul, Nat.zero_add, List.getElem?_append_left hj]
    exact hv
  | a :: l, i + 1, h => fun j v hv => by
    have ih := flat_at l i (by simpa using h) j v hv
    show (cl a ++ flat l)[(i + 1) * 24 + j]? = some v
    rw [List.getElem?_append_right (by rw [cl_len]; omega), cl_len, show (i + 1) * 24 + j - 24 = i * 24 + j by omega]
    exact ih
theorem Owns.range {base g n cap : Nat} {l : List (Nat → Int)} {W : World} (h : Owns base (.slice (some ⟨g, 0, none⟩) n cap) l W) (i : Nat) (hi : i < l.length) : W.rangeAt g (i * 24) (cl (nth l i)) := fun j v hv => by
  rcases h with ⟨_, ⟨e, _⟩ | ⟨g', cap', cur, e1, _, e3, _, _, _, e7⟩⟩
  · cases e
  · injection e1 with e1 _ _
    injection e1 with e1
    injection e1 with e1
    subst e1
    have hj : j < 24 := by have := (List.getElem?_eq_some_iff.1 hv).1; rw [cl_len] at this; exact this
    have q := flat_at l i hi j v hv
    rw [← e7, List.getElem?_take_of_lt (by have := Nat.mul_le_mul_right 24 (show i + 1 ≤ l.length by omega); omega)] at q
    rw [cell_of_row W g _ cur _ _ e3, ← Array.getElem?_toList]
    exact q
/-- the two cubes and the pieces lie in memory -/
def PartS (w : World) (a b : Nat → Int) (g : Nat) (l : List (Nat → Int)) (W : World) : Prop :=
  Blk w.heap.size (cc a) 30 W ∧ Blk (w.heap.size + 1) (cc b) 30 W ∧ (∀ i, i < l.length → W.rangeAt g (i * 24) (cl (nth l i))) ∧ g < W.heap.size ∧ Env w W ∧ 0 < w.heap.size
section
variable {w : World} {a b : Nat → Int} {g : Nat} {l : List (Nat → Int)} {W : World}
theorem PartS.below {W' : World} (hb : Below W.heap.size W W') (h : PartS w a b g l W) : PartS w a b g l W' :=
  ⟨h.1.below hb, h.2.1.below hb, fun i hi j v hv => (hb.cell (p := ⟨g, i * 24 + j, none⟩) h.2.2.2.1).trans (h.2.2.1 i hi j v hv), Nat.lt_of_lt_of_le h.2.2.2.1 hb.size, h.2.2.2.2.1.below hb, h.2.2.2.2.2⟩
theorem PartS.at (h : PartS w a b g l W) {i : Nat} (hi : i < l.length) : W.rangeAt g (i * 24) (cl (nth l i)) := h.2.2.1 i hi
theorem PartS.env (h : PartS w a b g l W) : Env w W := h.2.2.2.2.1
theorem PartS.ge (h : PartS w a b g l W) : w.heap.size + 1 < W.heap.size ∧ g < W.heap.size := ⟨h.2.1.lt, h.2.2.2.1⟩
theorem PartS.setRow {k : Nat} {cs : Array Value} (hk : w.heap.size + 1 < k ∧ g < k) (h : PartS w a b g l W) : PartS w a b g l (W.setRow k cs) :=
  ⟨h.1.rother (by omega) _, h.2.1.rother (by omega) _, fun i hi j v hv => (cell_setRow_other W k cs _ (by show g ≠ k; omega)).trans (h.2.2.1 i hi j v hv), by rw [setRow_size]; exact h.2.2.2.1, h.2.2.2.2.1.setRow h.2.2.2.2.2 (by omega) _, h.2.2.2.2.2⟩
end
theorem cl_head (a : Nat → Int) : (cl a)[0]? = some (.int .u64 (a 0)) := by simp [cl]
theorem PartS.start {w W w1 : World} {a b : Nat → Int} {g cap base n : Nat} {l : List (Nat → Int)} (s : Pair w a b W) (hz : 0 < w.heap.size) (ho : Owns base (.slice (some ⟨g, 0, none⟩) n cap) l w1) (hn : 0 < l.length) (hb : Below W.heap.size W w1) : PartS w a b g l w1 :=
  ⟨s.1.below hb, s.2.1.below hb, fun i hi => ho.range i hi, World.block_lt_of_cell? _ _ (ho.range 0 hn 0 _ (cl_head _)), s.2.2.below hb, hz⟩
end Go.Proofs.YtamjaohoicedfaaDoor
