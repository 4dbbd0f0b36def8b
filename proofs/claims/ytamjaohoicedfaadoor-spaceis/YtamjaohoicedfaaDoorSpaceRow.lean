/-
  A row of cubes in a block of its own: stores of whole cubes, cuts, wipes.
-/
import Derived.Test.YtamjaohoicedfaaDoorSpaceClo
import Derived.Lib.SlBuf
namespace Go.Proofs.YtamjaohoicedfaaDoor
open Go.RowKit

/-- cells written one behind the other -/
def setM (cur : Array Value) : Nat → List Value → Array Value
  | _, [] => cur
  | o, v :: r => setM (cur.setIfInBounds o v) (o + 1) r
theorem setM_size : ∀ (vs : List Value) (o : Nat) (cur : Array Value), (setM cur o vs).size = cur.size
  | [], _, _ => rfl
  | v :: r, o, cur => by rw [setM, setM_size r]; simp
theorem setM_out : ∀ (vs : List Value) (o : Nat) (cur : Array Value) (j : Nat), j < o ∨ o + vs.length ≤ j → (setM cur o vs)[j]? = cur[j]?
  | [], _, _, _, _ => rfl
  | v :: r, o, cur, j, h => by
    rw [setM, setM_out r (o + 1) _ j (by simp at h; omega), Array.getElem?_setIfInBounds, if_neg (by simp at h; omega)]
theorem setM_in : ∀ (vs : List Value) (o : Nat) (cur : Array Value) (j : Nat) (u : Value), o + vs.length ≤ cur.size → vs[j]? = some u → (setM cur o vs)[o + j]? = some u
  | [], _, _, _, _, _, h => by simp at h
  | v :: r, o, cur, 0, u, hs, h => by
    rw [setM, setM_out r (o + 1) _ _ (by omega), Array.getElem?_setIfInBounds]
    simp at h hs
    simp [h]
    omega
  | v :: r, o, cur, j + 1, u, hs, h => by
    rw [setM, show o + (j + 1) = o + 1 + j by omega]
    exact setM_in r (o + 1) _ j u (by simp at hs ⊢; omega) (by simpa using h)
theorem heap_setCells {g : Nat} {t : TypeId} {fr : Nat × Nat} : ∀ (vs : List Value) (o : Nat) (w : World) (cur : Array Value), w.heap[g]? = some (.cells cur t fr) → (w.setCells g o vs).heap[g]? = some (.cells (setM cur o vs) t fr)
  | [], _, _, _, h => h
  | v :: r, o, w, cur, h => by
    have e : (w.setCell ⟨g, o, none⟩ v).heap[g]? = some (.cells (cur.setIfInBounds o v) t fr) := by
      simp only [World.setCell, Array.getElem?_modify]
      rw [if_pos trivial, h]
      rfl
    exact heap_setCells r (o + 1) _ _ e
/-- a list of cubes lies at the head of a block of room for so many -/
def OwnsAt (g cap : Nat) (l : List (Nat → Int)) (W : World) : Prop :=
  l.length ≤ cap ∧ cap ≤ maxLen ∧ ∃ cur, W.heap[g]? = some (.cells cur 30 (0, 0)) ∧ cur.size = cap * 24 ∧ ∀ i, i < l.length → ∀ j, j < 24 → cur[i * 24 + j]? = some (.int .u64 (nth l i j))
theorem cl_get (a : Nat → Int) (j : Nat) (h : j < 24) : (cl a)[j]? = some (.int .u64 (a j)) := by simp [cl, h]
section
variable {base g cap : Nat} {l : List (Nat → Int)} {W W' : World}
theorem OwnsAt.of (h : Owns base (.slice (some ⟨g, 0, none⟩) l.length cap) l W) : OwnsAt g cap l W ∧ base ≤ g := by
  have hr := fun i hi => Owns.range h i hi
  rcases h.2 with ⟨e, _⟩ | ⟨g', cap', cur, e1, e2, e3, e4, e5, e6, e7⟩
  · cases e
  · injection e1 with e1 _ ec
    injection e1 with e1
    injection e1 with e1
    subst e1
    subst ec
    refine ⟨⟨e4, e5, cur, e3, e6, fun i hi j hj => ?_⟩, e2⟩
    have := hr i hi j _ (cl_get _ j hj)
    rwa [cell_of_row W g _ cur _ _ e3] at this
theorem OwnsAt.owns (h : OwnsAt g cap l W) (hb : base ≤ g) : Owns base (.slice (some ⟨g, 0, none⟩) l.length cap) l W := by
  obtain ⟨h1, h2, cur, h3, h4, h5⟩ := h
  refine ⟨flat_len l, .inr ⟨g, cap, cur, rfl, hb, h3, h1, h2, h4, ?_⟩⟩
  apply List.ext_getElem?
  intro t
  by_cases ht : t < l.length * 24
  · rw [List.getElem?_take_of_lt ht, Array.getElem?_toList]
    have e : t = t / 24 * 24 + t % 24 := by omega
    have q := h5 (t / 24) (by omega) (t % 24) (by omega)
    rw [← e] at q
    rw [q]
    have q' := flat_at l (t / 24) (by omega) (t % 24) _ (cl_get _ _ (by omega))
    rw [← e] at q'
    exact q'.symm
  · rw [List.getElem?_eq_none (by rw [List.length_take]; omega), List.getElem?_eq_none (by rw [flat_len]; omega)]
theorem OwnsAt.lt (h : OwnsAt g cap l W) : g < W.heap.size := by
  obtain ⟨_, _, cur, h3, _⟩ := h
  exact (Array.getElem?_eq_some_iff.1 h3).1
theorem OwnsAt.below (h : OwnsAt g cap l W) (hb : Below W.heap.size W W') : OwnsAt g cap l W' := by
  have hlt := h.lt
  obtain ⟨h1, h2, cur, h3, h4, h5⟩ := h
  exact ⟨h1, h2, cur, (hb.block g hlt).trans h3, h4, h5⟩
theorem OwnsAt.range (h : OwnsAt g cap l W) {i : Nat} (hi : i < l.length) : W.rangeAt g (i * 24) (cl (nth l i)) := by
  obtain ⟨h1, h2, cur, h3, h4, h5⟩ := h
  intro j v hv
  have hj : j < 24 := by have := (List.getElem?_eq_some_iff.1 hv).1; rwa [cl_len] at this
  rw [cl_get _ j hj] at hv
  rw [cell_of_row W g _ cur _ _ h3, h5 i hi j hj]
  exact hv
theorem OwnsAt.there (h : OwnsAt g cap l W) {i : Nat} (hi : i < cap) : W.there g (i * 24) 24 := by
  obtain ⟨h1, h2, cur, h3, h4, h5⟩ := h
  intro j hj
  refine ⟨?_, frozen_of_row _ g _ _ _ h3⟩
  rw [cell_of_row W g _ cur _ _ h3]
  have : i * 24 + j < cur.size := by rw [h4]; have := Nat.mul_le_mul_right 24 (show i + 1 ≤ cap from hi); omega
  simp [this]
theorem OwnsAt.set (h : OwnsAt g cap l W) {i : Nat} (hi : i < l.length) (c : Nat → Int) : OwnsAt g cap (l.set i c) (W.setCells g (i * 24) (cl c)) := by
  obtain ⟨h1, h2, cur, h3, h4, h5⟩ := h
  refine ⟨by simpa using h1, h2, setM cur (i * 24) (cl c), heap_setCells _ _ _ _ h3, by rw [setM_size]; exact h4, fun k hk j hj => ?_⟩
  rw [List.length_set] at hk
  have hi24 : i * 24 + 24 ≤ cur.size := by rw [h4]; have := Nat.mul_le_mul_right 24 (show i + 1 ≤ cap by omega); omega
  by_cases e : k = i
  · subst e
    rw [setM_in _ _ _ j _ (by rw [cl_len]; exact hi24) (cl_get c j hj)]
    simp [nth, hi]
  · rw [setM_out _ _ _ _ (by rw [cl_len]; omega), h5 k hk j hj]
    simp [nth, List.getElem?_set_ne (Ne.symm e)]
theorem OwnsAt.cut (h : OwnsAt g cap l W) {k : List (Nat → Int)} (hk : k.length ≤ l.length) (he : ∀ i, i < k.length → nth k i = nth l i) : OwnsAt g cap k W := by
  obtain ⟨h1, h2, cur, h3, h4, h5⟩ := h
  exact ⟨by omega, h2, cur, h3, h4, fun i hi j hj => by rw [h5 i (by omega) j hj, he i hi]⟩
theorem OwnsAt.wipe (h : OwnsAt g cap l W) (vs : List Value) : OwnsAt g cap l (W.setCells g (l.length * 24) vs) := by
  obtain ⟨h1, h2, cur, h3, h4, h5⟩ := h
  refine ⟨h1, h2, setM cur (l.length * 24) vs, heap_setCells _ _ _ _ h3, by rw [setM_size]; exact h4, fun i hi j hj => ?_⟩
  rw [setM_out _ _ _ _ (.inl (by omega)), h5 i hi j hj]
end
/-- clear of a slice of cubes -/
theorem run_clear_cubes (w : World) (ty : TypeId) (b o n c : Nat) (hn : 0 < n) (hc : ∀ j, j < n * 24 → (w.cell? ⟨b, o + j, none⟩).isSome = true) (hf : ∀ j, j < n * 24 → w.frozen? ⟨b, o + j, none⟩ = false) :
    ∃ vs, (Builtin.clear_ #[22] ty #[.slice (some ⟨b, o, none⟩) n c]).run Tryd.prog w = .ok (.tuple #[]) (w.setCells b o vs) := by
  obtain ⟨i, z, hi, hz, hs, hb, hzc⟩ := cubeInfo
  have hv : (zeroValue 30).run Tryd.prog w = .ok z w := by simp [zeroValue, typeInfo, hi, hz]
  refine ⟨(Builtin.zeroCells z.cells n).toList, ?_⟩
  have hlen : (Builtin.zeroCells z.cells n).toList.length = n * 24 := by simp [Builtin.zeroCells, hzc]
  have hst := run_storeCells_cells (P := Tryd.prog) b o (Builtin.zeroCells z.cells n).toList 0 w (by rw [hlen]; simpa using hc) (by rw [hlen]; simpa using hf) (by
    intro v hv'
    have hall : z.cells.all (·.oneCell') = true := by rw [hzc]; kernel_rfl
    simp only [Builtin.zeroCells, Array.toList_map, List.mem_map] at hv'
    obtain ⟨k, _, rfl⟩ := hv'
    have hk : k % z.cells.size < z.cells.size := Nat.mod_lt _ (by rw [hzc]; decide)
    rw [getElem!_pos z.cells _ hk]
    exact (Array.all_eq_true.1 hall) _ hk)
  simp only [Nat.add_zero] at hst
  obtain ⟨m, rfl⟩ : ∃ m, n = m + 1 := ⟨n - 1, by omega⟩
  simp [Builtin.clear_, run_underlying Tryd.underlying22, hv, hst]
/-- how far DeleteFunc is: i cubes kept of the first j; the others as they were -/
structure Kept (q : (Nat → Int) → Bool) (l : List (Nat → Int)) (i j : Nat) (d : List (Nat → Int)) : Prop where
  len : d.length = l.length
  lt : i < j
  le : j ≤ l.length
  pre : d.take i = (l.take j).filter fun c => !q c
  post : ∀ k, j ≤ k → nth d k = nth l k
theorem take_nth (l : List (Nat → Int)) {j : Nat} (h : j < l.length) : l.take (j + 1) = l.take j ++ [nth l j] := by
  rw [List.take_succ_eq_append_getElem h]
  simp [nth, List.getD_eq_getElem?_getD, List.getElem?_eq_getElem h]
theorem Kept.start {q : (Nat → Int) → Bool} {l : List (Nat → Int)} {i : Nat} (hi : i < l.length) (h1 : q (nth l i) = true) (h2 : ∀ j, j < i → q (nth l j) = false) : Kept q l i (i + 1) l := by
  refine ⟨rfl, by omega, by omega, ?_, fun _ _ => rfl⟩
  rw [take_nth l hi, List.filter_append]
  have e : (l.take i).filter (fun c => !q c) = l.take i := by
    rw [List.filter_eq_self]
    intro x hx
    obtain ⟨k, hk, rfl⟩ := List.mem_iff_getElem.1 hx
    have hk' : k < i := by simpa using (Nat.lt_of_lt_of_le hk (by rw [List.length_take]; omega))
    have := h2 k hk'
    rw [nth, List.getD_eq_getElem?_getD, List.getElem?_eq_getElem (by omega)] at this
    simpa using this
  rw [e]
  simp [h1]
theorem Kept.keep {q : (Nat → Int) → Bool} {l d : List (Nat → Int)} {i j : Nat} (h : Kept q l i j d) (hj : j < l.length) (h1 : q (nth l j) = false) : Kept q l (i + 1) (j + 1) (d.set i (nth l j)) := by
  have hid : i < d.length := by have := h.len; have := h.lt; omega
  refine ⟨by rw [List.length_set]; exact h.len, by have := h.lt; omega, by omega, ?_, fun k hk => ?_⟩
  · rw [take_nth l hj, List.filter_append, ← h.pre, take_nth _ (by simpa using hid)]
    have e1 : nth (d.set i (nth l j)) i = nth l j := by simp [nth, hid]
    rw [e1, List.take_set_of_le (Nat.le_refl _)]
    simp [h1]
  · rw [← h.post k (by omega)]
    have : i ≠ k := by have := h.lt; omega
    simp [nth, List.getElem?_set_ne this]
theorem Kept.skip {q : (Nat → Int) → Bool} {l d : List (Nat → Int)} {i j : Nat} (h : Kept q l i j d) (hj : j < l.length) (h1 : q (nth l j) = true) : Kept q l i (j + 1) d := by
  refine ⟨h.len, by have := h.lt; omega, by omega, ?_, fun k hk => h.post k (by omega)⟩
  rw [take_nth l hj, List.filter_append, ← h.pre]
  simp [h1]
theorem Kept.done {q : (Nat → Int) → Bool} {l d : List (Nat → Int)} {i : Nat} (h : Kept q l i l.length d) : d.take i = l.filter fun c => !q c := by
  rw [h.pre, List.take_of_length_le (Nat.le_refl _)]
theorem nth_take {d : List (Nat → Int)} {i k : Nat} (h : k < i) : nth (d.take i) k = nth d k := by
  simp [nth, List.getElem?_take_of_lt h]
end Go.Proofs.YtamjaohoicedfaaDoor
