/-
  The walks of the laws HeadSets and HeadTwice.
-/
import Derived.Test.YtpcacgfhjheiiaaDoorHeadSnd
import Derived.Test.YtpcacgfhjheiiaaDoorSeq
import Derived.ChangeKeysEq
namespace Go.Proofs.YtpcacgfhjheiiaaDoor
open Go.RowKit

/-- are two headers the same? -/
def hEq (a b : Nat → Int) : Bool := (List.range 12).all fun i => a i == b i
theorem partHead (a : Nat → Int) : ∀ (j : Nat), j < 12 → ∀ w : World, (part 23 (hc a) (j * 1)).run Tryd.prog w = .ok (.int .u64 (a j)) w
  | 0, _, _ => by kernel_rfl
  | 1, _, _ => by kernel_rfl
  | 2, _, _ => by kernel_rfl
  | 3, _, _ => by kernel_rfl
  | 4, _, _ => by kernel_rfl
  | 5, _, _ => by kernel_rfl
  | 6, _, _ => by kernel_rfl
  | 7, _, _ => by kernel_rfl
  | 8, _, _ => by kernel_rfl
  | 9, _, _ => by kernel_rfl
  | 10, _, _ => by kernel_rfl
  | 11, _, _ => by kernel_rfl
  | j + 12, h, _ => absurd h (by omega)
theorem cU64 : Tryd.prog.cellsOf 23 = 1 := by kernel_rfl
theorem eqItems_head (a b : Nat → Int) (d : Nat) (w : World) : ∀ is : List Nat, (∀ i ∈ is, i < 12) → (Op.eqItems (d + 1) 23 1 (hc a) (hc b) is).run Tryd.prog w = .ok (is.all fun i => a i == b i) w
  | [], _ => by simp [Op.eqItems]
  | i :: is, h => by
    have h1 := h i (by simp)
    have ih := eqItems_head a b d w is fun j hj => h j (by simp [hj])
    simp only [Op.eqItems, Sem.run_bind, partHead a i h1, partHead b i h1, Result.andThen_ok, run_equalIn_int w d 23 .u64 .u64 (a i) (b i) Tryd.underlying23]
    cases hx : (a i == b i)
    · simp [hx]
    · simp [hx, ih]
theorem infoU64 : ∃ i, Tryd.prog.info? 23 = some i := Option.isSome_iff_exists.1 (by kernel_rfl)
theorem eql_head (a b : Nat → Int) (w : World) : (Op.equalIn 10000 25 (.agg (hc a)) (.agg (hc b))).run Tryd.prog w = .ok (hEq a b) w := by
  obtain ⟨i, hi⟩ := infoU64
  rw [run_equalIn_array w 9999 (hc a) (hc b) Tryd.underlying25 hi, cU64]
  exact eqItems_head a b 9998 w (List.range 12) fun i hi => by simpa using hi
theorem hEq_refl (a : Nat → Int) : hEq a a = true := by simp [hEq]
theorem guardHead : Tryd.prog.eqGuardType Tryd.prog.depth 25 = false := by kernel_rfl

theorem kept1 {w w1 : World} {A : Obj} (h : Below (w.alloc A).heap.size (w.alloc A) w1) : w1.heap[w.heap.size]? = some A ∧ w.heap.size < w1.heap.size ∧ Below w.heap.size w w1 :=
  ⟨(h.block _ (by simp)).trans (heap_alloc_new _ _), Nat.lt_of_lt_of_le (by simp) h.size, (below1 w A).trans (h.mono (by simp))⟩
theorem kept1' {w w1 w2 : World} {A B : Obj} (k : w1.heap[w.heap.size]? = some A ∧ w.heap.size < w1.heap.size ∧ Below w.heap.size w w1) (h : Below (w1.alloc B).heap.size (w1.alloc B) w2) :
    w2.heap[w.heap.size]? = some A ∧ w2.heap[w1.heap.size]? = some B ∧ w1.heap.size < w2.heap.size ∧ Below w.heap.size w w2 :=
  ⟨(h.block _ (by simp; omega)).trans ((heap_alloc_old _ _ k.2.1).trans k.1), (h.block _ (by simp)).trans (heap_alloc_new _ _), Nat.lt_of_lt_of_le (by simp) h.size, k.2.2.trans ((below1 w1 B).mono (by omega) |>.trans (h.mono (by simp; omega)))⟩

/-- the cells of a header as a list -/
def hl (a : Nat → Int) : List Value := [.int .u64 (a 0), .int .u64 (a 1), .int .u64 (a 2), .int .u64 (a 3), .int .u64 (a 4), .int .u64 (a 5), .int .u64 (a 6), .int .u64 (a 7), .int .u64 (a 8), .int .u64 (a 9), .int .u64 (a 10), .int .u64 (a 11)]
/-- the world of the law since its beginning: the table is there, nothing old has changed -/
def Env (w w' : World) : Prop := Tab w' ∧ 0 < w'.heap.size ∧ Below w.heap.size w w'
theorem Env.below {w W W' : World} (h : Env w W) (hb : Below W.heap.size W W') : Env w W' :=
  ⟨h.1.below h.2.1 hb, Nat.lt_of_lt_of_le h.2.1 hb.size, h.2.2.trans (hb.mono h.2.2.size)⟩
theorem Env.drew {w W : World} (h : Env w W) : Env w W.drew := h.below (Below.refl _ _).drew
theorem Env.tab {w W : World} (h : Env w W) : Tab W := h.1
theorem Env.lt {w W : World} (h : Env w W) : 0 < W.heap.size := h.2.1
/-- a header lies in a block, from its head on -/
def HeadAt (b : Nat) (a : Nat → Int) (w : World) : Prop := w.rangeAt b 0 (hl a)
theorem head_of_row {w : World} {b : Nat} {a : Nat → Int} {t : TypeId} {fr : Nat × Nat} (h : w.heap[b]? = some (.cells (hc a) t fr)) : HeadAt b a w := fun j v hv => by
  rw [Nat.zero_add, cell_of_row w b j _ t fr h]
  show (hl a).toArray[j]? = some v
  simpa using hv
theorem HeadAt.below {W W' : World} {b : Nat} {a : Nat → Int} (h : HeadAt b a W) (hb : Below W.heap.size W W') : HeadAt b a W' := fun j v hv =>
  (hb.cell (p := ⟨b, 0 + j, none⟩) (World.block_lt_of_cell? W _ (h j v hv))).trans (h j v hv)
theorem infoHead : (Tryd.prog.info? 25).map (·.size) = some 12 := by kernel_rfl
theorem execHead {a : Act} {oi : Oper} {w : World} {x : Operand} (ho : oi.op = .load 25 x) (b : Nat) (hx : a.eval x = .pointer (some ⟨b, 0, none⟩)) (h : Nat → Int) (hc : HeadAt b h w) :
    (execOp a.eval oi).run Tryd.prog w = .ok (.value (.agg (hl h).toArray)) w :=
  execRow ho b 0 hx (hl h) _ hc Tryd.underlying25 rfl infoHead
/-- three headers lie in three blocks -/
def Bun (w : World) (b1 b2 b3 : Nat) (a x y : Nat → Int) (W : World) : Prop := HeadAt b1 a W ∧ HeadAt b2 x W ∧ HeadAt b3 y W ∧ Env w W
section
variable {w W W' : World} {b1 b2 b3 : Nat} {a x y : Nat → Int}
theorem Bun.below (hb : Below W.heap.size W W') (h : Bun w b1 b2 b3 a x y W) : Bun w b1 b2 b3 a x y W' := ⟨h.1.below hb, h.2.1.below hb, h.2.2.1.below hb, h.2.2.2.below hb⟩
theorem Bun.r1 (h : Bun w b1 b2 b3 a x y W) : HeadAt b1 a W := h.1
theorem Bun.r2 (h : Bun w b1 b2 b3 a x y W) : HeadAt b2 x W := h.2.1
theorem Bun.r3 (h : Bun w b1 b2 b3 a x y W) : HeadAt b3 y W := h.2.2.1
theorem Bun.env (h : Bun w b1 b2 b3 a x y W) : Env w W := h.2.2.2
theorem Bun.tab (h : Bun w b1 b2 b3 a x y W) : Tab W := h.2.2.2.1
theorem Bun.lt (h : Bun w b1 b2 b3 a x y W) : 0 < W.heap.size := h.2.2.2.2.1
theorem Bun.kept (h : Bun w b1 b2 b3 a x y W) : Below w.heap.size w W := h.2.2.2.2.2
end
theorem upd_sound (a : Nat → Int) (k : Nat) (v : Int) (hs : sndB a = true) (hf : fitB k v = true) : sndB (upd a k v) = true := by
  simp only [sndB, List.all_eq_true, List.mem_range] at hs ⊢
  intro j hj
  unfold upd
  by_cases e : j = k
  · rw [if_pos e, e]; exact hf
  · rw [if_neg e]; exact hs j hj
theorem upd_nonneg (a : Nat → Int) (k : Nat) (v : Int) (h : ∀ j, 0 ≤ a j) (hv : 0 ≤ v) : ∀ j, 0 ≤ upd a k v j := fun j => by
  unfold upd
  split
  · exact hv
  · exact h j
end Go.Proofs.YtpcacgfhjheiiaaDoor
