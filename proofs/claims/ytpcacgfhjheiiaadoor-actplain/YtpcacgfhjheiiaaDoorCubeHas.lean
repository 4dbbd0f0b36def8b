/-
  The walk of the program's Has.
-/
import Derived.Test.YtpcacgfhjheiiaaDoorCubeVal
namespace Go.Proofs.YtpcacgfhjheiiaaDoor
open Go.RowKit

/-- a row lies in a block of its own -/
def Blk (b : Nat) (cs : Array Value) (t : TypeId) (W : World) : Prop := W.heap[b]? = some (.cells cs t (0, 0))
section
variable {b : Nat} {cs : Array Value} {t : TypeId} {W W' : World}
theorem Blk.lt (h : Blk b cs t W) : b < W.heap.size := (Array.getElem?_eq_some_iff.1 (show W.heap[b]? = some _ from h)).1
theorem Blk.below (h : Blk b cs t W) (hb : Below W.heap.size W W') : Blk b cs t W' := (hb.block b h.lt).trans h
theorem Blk.new (W : World) (cs : Array Value) (t : TypeId) : Blk W.heap.size cs t (W.alloc (.cells cs t)) := heap_alloc_new _ _
theorem Blk.new2 (W : World) (o : Obj) (cs : Array Value) (t : TypeId) : Blk (W.heap.size + 1) cs t ((W.alloc o).alloc (.cells cs t)) := heap_alloc2_new _ _ _
theorem Blk.old (h : Blk b cs t W) (o : Obj) : Blk b cs t (W.alloc o) := h.below (below1 _ _)
theorem Blk.drew (h : Blk b cs t W) : Blk b cs t W.drew := h
theorem Blk.drewN (h : Blk b cs t W) : ∀ n, Blk b cs t (W.drewN n)
  | 0 => h
  | n + 1 => h.drewN n
theorem Env.drewN {w W : World} (h : Env w W) : ∀ n, Env w (W.drewN n)
  | 0 => h
  | n + 1 => (h.drewN n).drew
theorem Env.start {w : World} (ht : Tab w) (hz : 0 < w.heap.size) : Env w w := ⟨ht, hz, Below.refl _ _⟩
theorem Env.alloc {w W : World} (h : Env w W) (o : Obj) : Env w (W.alloc o) := h.below (below1 _ _)
theorem Env.kept {w W : World} (h : Env w W) : Below w.heap.size w W := h.2.2
end
/-- does a header have other bits than Value where Care has ones? -/
def offB (c h : Nat → Int) (j : Nat) : Bool := bits .and .u64 (h j) (c (12 + j)) != c j
/-- is a header in a cube? -/
def hasB (c h : Nat → Int) : Bool := csnd c && sndB h && (List.range 12).all fun j => !offB c h j
theorem hasB_cube {c h : Nat → Int} (e : csnd c = false) : hasB c h = false := by simp [hasB, e]
theorem hasB_head {c h : Nat → Int} (e : sndB h = false) : hasB c h = false := by simp [hasB, e]
theorem hasB_off {c h : Nat → Int} {j : Nat} (hj : j < 12) (e : offB c h j = true) : hasB c h = false := by
  have : ((List.range 12).all fun j => !offB c h j) = false := by
    rw [List.all_eq_false]
    exact ⟨j, by simpa using hj, by simp [e]⟩
  simp [hasB, this]
theorem hasB_yes {c h : Nat → Int} (h1 : csnd c = true) (h2 : sndB h = true) (e : ∀ j, j < 12 → offB c h j = false) : hasB c h = true := by
  have : ((List.range 12).all fun j => !offB c h j) = true := by
    rw [List.all_eq_true]
    intro j hj
    simp [e j (by simpa using hj)]
  simp [hasB, this, h1, h2]
/-- A load of a whole row behind a guard that says yes. -/
theorem loadRowG {P : Program} {ops : Array Oper} {rest : List Oper} {o : Oper} {a : Act} {w : World} {Q : Exit → Act → World → Prop} (hw : Region.wanted o (yielded ops a.tmps) = true) (ty : TypeId) (x : Operand) (ho : o.op = .load ty x)
    (g : Nat) (hx : a.eval x = .pointer (some ⟨g, 0, none⟩)) (t : TypeId) (cs : Array Value) (fr : Nat × Nat) {d : TypeDesc} (hg : w.heap[g]? = some (.cells cs t fr))
    (hu : P.underlying ty = some d) (hd : d.isRow = true) (hi : (P.info? ty).map (·.size) = some cs.size)
    (h : wpList P ops Q rest (a.put o.dst (.agg cs)) w) : wpList P ops Q (o :: rest) a w :=
  wpList_step fun K hK => by rw [if_pos hw]; exact wp_load_row ty x ho g hx t cs fr d hg hu (by cases d <;> first | rfl | (simp [TypeDesc.isRow] at hd)) hi (hK _ _ h)
end Go.Proofs.YtpcacgfhjheiiaaDoor
