/-
  The walk of the program's Meet.
-/
import Derived.Test.YtpcacgfhjheiiaaDoorCubeHas
import Derived.StillTailTactics
namespace Go.Proofs.YtpcacgfhjheiiaaDoor
open Go.RowKit

theorem Tab.setRow {W : World} (h : Tab W) {g : Nat} (hg : 0 ≠ g) (cs : Array Value) : Tab (W.setRow g cs) :=
  ⟨fun k hk => ⟨(cell_setRow_other W g cs _ hg).trans (h.1 k hk).1, (cell_setRow_other W g cs _ hg).trans (h.1 k hk).2⟩, by
    obtain ⟨t, fr, hf⟩ := h.2
    exact ⟨t, fr, (setRow_other _ _ _ _ hg).trans hf⟩⟩
theorem Env.setRow {w W : World} (h : Env w W) (hw : 0 < w.heap.size) {g : Nat} (hg : w.heap.size ≤ g) (cs : Array Value) : Env w (W.setRow g cs) :=
  ⟨h.1.setRow (by omega) cs, by rw [setRow_size]; exact h.2.1, below_setRow h.2.2 hg cs⟩
theorem belowDrewN (W : World) : ∀ n, Below W.heap.size W (W.drewN n)
  | 0 => Below.refl _ _
  | n + 1 => (belowDrewN W n).drew
theorem Tab.setCell {W : World} (h : Tab W) {g k : Nat} (hg : 0 ≠ g) (v : Value) : Tab (W.setCell ⟨g, k, none⟩ v) := by
  have hb : (W.setCell ⟨g, k, none⟩ v).heap[0]? = W.heap[0]? := heap_setCell_other W _ _ v hg
  refine ⟨fun j hj => ⟨(World.cell?_of_block (a := ⟨0, j * 2, none⟩) hb).trans (h.1 j hj).1, (World.cell?_of_block (a := ⟨0, j * 2 + 1, none⟩) hb).trans (h.1 j hj).2⟩, ?_⟩
  obtain ⟨t, fr, hf⟩ := h.2
  exact ⟨t, fr, hb.trans hf⟩
theorem cc_ext {x : Array Value} {a : Nat → Int} (hs : x.size = 24) (h : ∀ j, j < 24 → x[j]? = some (.int .u64 (a j))) : x = cc a := by
  apply Array.ext_getElem?
  intro i
  by_cases hi : i < 24
  · rw [h i hi, cc_at a i hi]
  · rw [Array.getElem?_eq_none (by omega), Array.getElem?_eq_none (by rw [cc_size]; omega)]
theorem cc_set (a : Nat → Int) (v : Int) (k : Nat) (_ : k < 24) : (cc a).setIfInBounds k (.int .u64 v) = cc (upd a k v) := by
  refine cc_ext (by rw [Array.size_setIfInBounds, cc_size]) fun j hj => ?_
  rw [Array.getElem?_setIfInBounds, cc_size]
  unfold upd
  by_cases e : k = j
  · subst e; simp [hj]
  · rw [if_neg e, cc_at a j hj, if_neg (fun h => e h.symm)]
section
variable {b : Nat} {a : Nat → Int} {t : TypeId} {W : World}
theorem Blk.cset (h : Blk b (cc a) t W) {k : Nat} (hk : k < 24) (v : Int) : Blk b (cc (upd a k v)) t (W.setCell ⟨b, k, none⟩ (.int .u64 v)) := by
  unfold Blk
  rw [heap_setCell_same W b k (cc a) t _ h, cc_set a v k hk]
theorem Blk.cother {cs : Array Value} (h : Blk b cs t W) {g k : Nat} (hg : b ≠ g) (v : Value) : Blk b cs t (W.setCell ⟨g, k, none⟩ v) := (heap_setCell_other W ⟨g, k, none⟩ b v hg).trans h
theorem Blk.rset {cs : Array Value} (h : Blk b cs t W) (ds : Array Value) : Blk b ds t (W.setRow b ds) := setRow_heap _ _ _ _ _ _ h
theorem Blk.rother {cs : Array Value} (h : Blk b cs t W) {g : Nat} (hg : b ≠ g) (ds : Array Value) : Blk b cs t (W.setRow g ds) := (setRow_other _ _ _ _ hg).trans h
end
/-- do two cubes fix a bit of a field otherwise? -/
def clashB (a b : Nat → Int) (j : Nat) : Bool := bits .and .u64 (bits .and .u64 (bits .xor .u64 (a j) (b j)) (a (12 + j))) (b (12 + j)) != 0
/-- have two cubes a header in common? -/
def metB (a b : Nat → Int) : Bool := csnd a && csnd b && (List.range 12).all fun j => !clashB a b j
def orC (a b : Nat → Int) : Nat → Int := fun j => bits .or .u64 (a j) (b j)
/-- what two cubes have in common -/
def metV (a b : Nat → Int) : Nat → Int := if metB a b then orC a b else zh
/-- the first fields of it -/
def orTo (a b : Nat → Int) (r : Nat) : Nat → Int := fun j => if j < r ∨ (12 ≤ j ∧ j < 12 + r) then orC a b j else 0
theorem orTo_zero (a b : Nat → Int) : orTo a b 0 = zh := by
  funext j; simp [orTo, zh]; omega
theorem orTo_succ (a b : Nat → Int) (r : Nat) (h : r < 12) : upd (upd (orTo a b r) (12 + r) (orC a b (12 + r))) r (orC a b r) = orTo a b (r + 1) := by
  funext j
  unfold upd orTo
  by_cases e1 : j = r
  · subst e1; simp
  · by_cases e2 : j = 12 + r
    · subst e2; simp
    · rw [if_neg e1, if_neg e2]
      by_cases h : j < r ∨ (12 ≤ j ∧ j < 12 + r)
      · rw [if_pos h, if_pos (by omega)]
      · rw [if_neg h, if_neg (by omega)]
theorem orTo_all (a b : Nat → Int) : cc (orTo a b 12) = cc (orC a b) := by
  refine cc_ext (cc_size _) fun j hj => ?_
  rw [cc_at _ j hj]
  unfold orTo
  rw [if_pos (by omega)]
theorem metB_l {a b : Nat → Int} (h : csnd a = false) : metB a b = false := by simp [metB, h]
theorem metB_r {a b : Nat → Int} (h : csnd b = false) : metB a b = false := by simp [metB, h]
theorem metB_clash {a b : Nat → Int} {j : Nat} (hj : j < 12) (e : clashB a b j = true) : metB a b = false := by
  have : ((List.range 12).all fun j => !clashB a b j) = false := by
    rw [List.all_eq_false]
    exact ⟨j, by simpa using hj, by simp [e]⟩
  simp [metB, this]
theorem metB_yes {a b : Nat → Int} (h1 : csnd a = true) (h2 : csnd b = true) (e : ∀ j, j < 12 → clashB a b j = false) : metB a b = true := by
  have : ((List.range 12).all fun j => !clashB a b j) = true := by
    rw [List.all_eq_true]
    intro j hj
    simp [e j (by simpa using hj)]
  simp [metB, this, h1, h2]
/-- a result in memory beside a plain one -/
theorem res_row {fn : Func} {p u : Tmp} {ty : TypeId} (h : fn.results = #[.cell p ty, .tmp u]) {tmps : Array Value} {P : Program} {w : World} {g : Nat} {t : TypeId} {cs : Array Value} {d : TypeDesc} {x : Value}
    (hp : tmps.getD p undef = .pointer (some ⟨g, 0, none⟩)) (hx : tmps.getD u undef = x) (hg : Blk g cs t w)
    (hu : P.underlying ty = some d) (hd : d.isRow = true) (hi : (P.info? ty).map (·.size) = some cs.size) :
    (results fn tmps).run P w = .ok (.tuple #[.agg cs, x]) w := by
  rw [results_cell_tmp h, hp, hx]
  simp [asAddr, run_loadVar_row w g t ty cs (0, 0) d hg hu (by cases d <;> first | rfl | (simp [TypeDesc.isRow] at hd)) hi]
theorem Blk.new3 (W : World) (o p : Obj) (cs : Array Value) (t : TypeId) : Blk (W.heap.size + 1 + 1) cs t (((W.alloc o).alloc p).alloc (.cells cs t)) := by
  have := Blk.new2 (W.alloc o) p cs t
  simpa using this

end Go.Proofs.YtpcacgfhjheiiaaDoor
