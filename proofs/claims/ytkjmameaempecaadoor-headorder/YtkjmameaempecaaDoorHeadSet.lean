/-
  The walks of the laws HeadSets and HeadTwice.
-/
import Derived.Test.YtkjmameaempecaaDoorHeadSnd
import Derived.Test.YtkjmameaempecaaDoorSeq
import Derived.ChangeKeysEq
namespace Go.Proofs.YtkjmameaempecaaDoor
open Go.RowKit

/-- are two headers the same? -/
def hEq (a b : Nat → Int) : Bool := (List.range 12).all fun i => a i == b i
theorem partHead (a : Nat → Int) : ∀ (j : Nat), j < 12 → ∀ w : World, (part 28 (hc a) (j * 1)).run Tryd.prog w = .ok (.int .u64 (a j)) w
  | 0, _, _ => by kernel_rfl
  | 1, _, _ => by kernel_rfl
  | 2, _, _ => by kernel_rfl
  | 3, _, _ => by kernel_rfl
  | 4, _, _ => by kernel_rfl
  | 5, _, _ => by kernel_rfl
  | 6, _, _ => by kernel_rfl
  | 7, _, _ => by kernel_rfl
  | 8, _, _ => by kernel_rfl
  | 9, _, _ => by kernel_rfl
  | 10, _, _ => by kernel_rfl
  | 11, _, _ => by kernel_rfl
  | j + 12, h, _ => absurd h (by omega)
theorem cU64 : Tryd.prog.cellsOf 28 = 1 := by kernel_rfl
theorem eqItems_head (a b : Nat → Int) (d : Nat) (w : World) : ∀ is : List Nat, (∀ i ∈ is, i < 12) → (Op.eqItems (d + 1) 28 1 (hc a) (hc b) is).run Tryd.prog w = .ok (is.all fun i => a i == b i) w
  | [], _ => by simp [Op.eqItems]
  | i :: is, h => by
    have h1 := h i (by simp)
    have ih := eqItems_head a b d w is fun j hj => h j (by simp [hj])
    simp only [Op.eqItems, Sem.run_bind, partHead a i h1, partHead b i h1, Result.andThen_ok, run_equalIn_int w d 28 .u64 .u64 (a i) (b i) Tryd.underlying28]
    cases hx : (a i == b i)
    · simp [hx]
    · simp [hx, ih]
theorem infoU64 : ∃ i, Tryd.prog.info? 28 = some i := Option.isSome_iff_exists.1 (by kernel_rfl)
theorem eql_head (a b : Nat → Int) (w : World) : (Op.equalIn 10000 33 (.agg (hc a)) (.agg (hc b))).run Tryd.prog w = .ok (hEq a b) w := by
  obtain ⟨i, hi⟩ := infoU64
  rw [run_equalIn_array w 9999 (hc a) (hc b) Tryd.underlying33 hi, cU64]
  exact eqItems_head a b 9998 w (List.range 12) fun i hi => by simpa using hi
theorem hEq_refl (a : Nat → Int) : hEq a a = true := by simp [hEq]
theorem guardHead : Tryd.prog.eqGuardType Tryd.prog.depth 33 = false := by kernel_rfl

theorem kept1 {w w1 : World} {A : Obj} (h : Below (w.alloc A).heap.size (w.alloc A) w1) : w1.heap[w.heap.size]? = some A ∧ w.heap.size < w1.heap.size ∧ Below w.heap.size w w1 :=
  ⟨(h.block _ (by simp)).trans (heap_alloc_new _ _), Nat.lt_of_lt_of_le (by simp) h.size, (below1 w A).trans (h.mono (by simp))⟩
theorem kept1' {w w1 w2 : World} {A B : Obj} (k : w1.heap[w.heap.size]? = some A ∧ w.heap.size < w1.heap.size ∧ Below w.heap.size w w1) (h : Below (w1.alloc B).heap.size (w1.alloc B) w2) :
    w2.heap[w.heap.size]? = some A ∧ w2.heap[w1.heap.size]? = some B ∧ w1.heap.size < w2.heap.size ∧ Below w.heap.size w w2 :=
  ⟨(h.block _ (by simp; omega)).trans ((heap_alloc_old _ _ k.2.1).trans k.1), (h.block _ (by simp)).trans (heap_alloc_new _ _), Nat.lt_of_lt_of_le (by simp) h.size, k.2.2.trans ((below1 w1 B).mono (by omega) |>.trans (h.mono (by simp; omega)))⟩

/-- the cells of a header as a list -/
def hl (a : Nat → Int) : List Value := [.int .u64 (a 0), .int .u64 (a 1), .int .u64 (a 2), .int .u64 (a 3), .int .u64 (a 4), .int .u64 (a 5), .int .u64 (a 6), .int .u64 (a 7), .int .u64 (a 8), .int .u64 (a 9), .int .u64 (a 10), .int .u64 (a 11)]
/-- the world of the law since its beginning: the table is there, nothing old has changed -/
def Env (w w' : World) : Prop := Tab w' ∧ 0 < w'.heap.size ∧ Below w.heap.size w w'
theorem Env.below {w W W' : World} (h : Env w W) (hb : Below W.heap.size W W') : Env w W' :=
  ⟨h.1.below h.2.1 hb, Nat.lt_of_lt_of_le h.2.1 hb.size, h.2.2.trans (hb.mono h.2.2.size)⟩
theorem Env.drew {w W : World} (h : Env w W) : Env w W.drew := h.below (Below.refl _ _).drew
theorem Env.tab {w W : World} (h : Env w W) : Tab W := h.1
theorem Env.lt {w W : World} (h : Env w W) : 0 < W.heap.size := h.2.1
/-- a header lies in a block, from its head on -/
def HeadAt (b : Nat) (a : Nat → Int) (w : World) : Prop := w.rangeAt b 0 (hl a)
theorem head_of_row {w : World} {b : Nat} {a : Nat → Int} {t : TypeId} {fr : Nat × Nat} (h : w.heap[b]? = some (.cells (hc a) t fr)) : HeadAt b a w := fun j v hv => by
  rw [Nat.zero_add, cell_of_row w b j _ t fr h]
  show (hl a).toArray[j]? = some v
  simpa using hv
theorem HeadAt.below {W W' : World} {b : Nat} {a : Nat → Int} (h : HeadAt b a W) (hb : Below W.heap.size W W') : HeadAt b a W' := fun j v hv =>
  (hb.cell (p := ⟨b, 0 + j, none⟩) (World.block_lt_of_cell? W _ (h j v hv))).trans (h j v hv)
theorem infoHead : (Tryd.prog.info? 33).map (·.size) = some 12 := by kernel_rfl
theorem execHead {a : Act} {oi : Oper} {w : World} {x : Operand} (ho : oi.op = .load 33 x) (b : Nat) (hx : a.eval x = .pointer (some ⟨b, 0, none⟩)) (h : Nat → Int) (hc : HeadAt b h w) :
    (execOp a.eval oi).run Tryd.prog w = .ok (.value (.agg (hl h).toArray)) w :=
  execRow ho b 0 hx (hl h) _ hc Tryd.underlying33 rfl infoHead
/-- three headers lie in three blocks -/
def Bun (w : World) (b1 b2 b3 : Nat) (a x y : Nat → Int) (W : World) : Prop := HeadAt b1 a W ∧ HeadAt b2 x W ∧ HeadAt b3 y W ∧ Env w W
section
variable {w W W' : World} {b1 b2 b3 : Nat} {a x y : Nat → Int}
theorem Bun.below (hb : Below W.heap.size W W') (h : Bun w b1 b2 b3 a x y W) : Bun w b1 b2 b3 a x y W' := ⟨h.1.below hb, h.2.1.below hb, h.2.2.1.below hb, h.2.2.2.below hb⟩
theorem Bun.r1 (h : Bun w b1 b2 b3 a x y W) : HeadAt b1 a W := h.1
theorem Bun.r2 (h : Bun w b1 b2 b3 a x y W) : HeadAt b2 x W := h.2.1
theorem Bun.r3 (h : Bun w b1 b2 b3 a x y W) : HeadAt b3 y W := h.2.2.1
theorem Bun.env (h : Bun w b1 b2 b3 a x y W) : Env w W := h.2.2.2
theorem Bun.tab (h : Bun w b1 b2 b3 a x y W) : Tab W := h.2.2.2.1
theorem Bun.lt (h : Bun w b1 b2 b3 a x y W) : 0 < W.heap.size := h.2.2.2.2.1
theorem Bun.kept (h : Bun w b1 b2 b3 a x y W) : Below w.heap.size w W := h.2.2.2.2.2
end
set_option maxHeartbeats 1000000 in
theorem sets_err1 (a x : Nat → Int) (n v : Int) (h0 : ∀ j, 0 ≤ a j) (w : World) (ht : Tab w) (hz : 0 < w.heap.size)
    (h1 : ∀ w, Tab w → 0 < w.heap.size → Calls Tryd.prog 18 #[.agg (hc a), .int .i64 n, .int .u64 v] w fun e' w' => e' = .returned (.tuple #[.agg (hc x), .int .i64 1]) ∧ Below w.heap.size w w')
    (h2 : ∀ w, Calls Tryd.prog 19 #[.agg (hc a), .int .i64 n, .int .u64 v] w fun e' w' => e' = .returned (.tuple #[.agg (hc x), .int .i64 1]) ∧ Below w.heap.size w w') :
    Calls Tryd.prog 5 #[.agg (hc a), .int .i64 n, .int .u64 v] w fun e w' => e = .returned (.bool true) ∧ Below w.heap.size w w' := by
  have HE := Lib.hid (show Env w w from ⟨ht, hz, Below.refl _ _⟩)
  have H1 := Lib.hid h1
  have H2 := Lib.hid h2
  have H0 := Lib.hid h0
  clear ht h1 h2 h0
  go_enter Tryd.func5, Tryd.ntmps5
  go_wp2_with (first
    | (refine wpList_load_row rfl 33 _ rfl w.heap.size rfl 33 (hc a) (0, 0) _ (heap_alloc_new _ _) Tryd.underlying33 rfl (by kernel_rfl) ?_)
    | (go_at_call 18; refine (H1.out _ (HE.out.below (below1 _ _)).1 (HE.out.below (below1 _ _)).2.1).mono ?_; rintro e w1 ⟨rfl, hw1⟩; have K1 := Lib.hid (kept1 hw1); clear hw1)
    | (refine wpList_store_row rfl 33 _ _ rfl w1.heap.size (hc x) rfl rfl 33 _ (heap_alloc_new _ _) (by kernel_rfl) rfl (hc_one _) ?_; rw [World.setRow_alloc_new])
    | (refine wpList_load_row rfl 33 _ rfl w.heap.size rfl 33 (hc a) (0, 0) _ ((heap_alloc_old _ _ K1.out.2.1).trans K1.out.1) Tryd.underlying33 rfl (by kernel_rfl) ?_)
    | (go_at_call 19; refine (H2.out _).mono ?_; rintro e w2 ⟨rfl, hw2⟩; have K2 := Lib.hid (kept1' K1.out hw2); clear hw2)
    | (refine wpList_store_row rfl 33 _ _ rfl w2.heap.size (hc x) rfl rfl 33 _ (heap_alloc_new _ _) (by kernel_rfl) rfl (hc_one _) ?_; rw [World.setRow_alloc_new]))
  have bun : Bun w w.heap.size w1.heap.size w2.heap.size a x x (w2.alloc (.cells (hc x) 33)).drew :=
    ⟨head_of_row ((heap_alloc_old _ _ (Nat.lt_trans K1.out.2.1 K2.out.2.2.1)).trans K2.out.1), head_of_row ((heap_alloc_old _ _ K2.out.2.2.1).trans K2.out.2.1), head_of_row (heap_alloc_new _ _), ((HE.out.below K2.out.2.2.2).below (below1 _ _)).drew⟩
  clear K1 K2 H1 H2 HE
  generalize (w2.alloc (.cells (hc x) 33)) = W at *
  refine wp_region_held_drew (S := Bun w w.heap.size w1.heap.size w2.heap.size a x x) (by kernel_rfl) bun (fun hS => ?_)
  clear bun
  have heq : ∀ w, (Op.equalIn 10000 33 (.agg (hl x).toArray) (.agg (hl x).toArray)).run Tryd.prog w = .ok true w := fun w => (eql_head x x w).trans (by rw [hEq_refl])
  have hgd := guardHead
  refine seqCall 0 rfl (by kernel_rfl) rfl (fun K hK => ?_)
  go_simp
  refine (answers_any _ hS.tab).mono ?_
  rintro e w' ⟨rfl, rfl⟩
  refine hK.out _ _ (hS) (fun hS => ?_)
  clear hK K
  try simp only [Act.put, List.setIfInBounds_toArray, List.set_cons_zero, List.set_cons_succ]
  refine seqRead 1 (v := _) rfl (by kernel_rfl) (by kernel_rfl) (by kernel_rfl) (fun _ _ _ h => h) rfl (fun w hSw => by go_simp <;> with_reducible rfl) hS ?_
  try simp only [Act.put, List.setIfInBounds_toArray, List.set_cons_zero, List.set_cons_succ]
  refine seqRead 2 (v := _) rfl (by kernel_rfl) (by kernel_rfl) (by kernel_rfl) (fun _ _ _ h => h) rfl (fun w hSw => execHead rfl _ rfl a hSw.r1) hS ?_
  try simp only [Act.put, List.setIfInBounds_toArray, List.set_cons_zero, List.set_cons_succ]
  refine seqRead 4 (v := _) rfl (by kernel_rfl) (by kernel_rfl) (by kernel_rfl) (fun _ _ _ h => h) rfl (fun w hSw => execHead rfl _ rfl a hSw.r1) hS ?_
  try simp only [Act.put, List.setIfInBounds_toArray, List.set_cons_zero, List.set_cons_succ]
  refine seqCall 3 rfl (by kernel_rfl) rfl (fun K hK => ?_)
  go_simp
  refine (sound_any a H0.out _ hS.tab hS.lt).mono ?_
  rintro e w3 ⟨rfl, hw3⟩
  refine hK.out _ _ (Bun.below hw3 hS) (fun hS => ?_)
  clear hK K
  try simp only [Act.put, List.setIfInBounds_toArray, List.set_cons_zero, List.set_cons_succ]
  refine seqCall 5 rfl (by kernel_rfl) rfl (fun K hK => ?_)
  go_simp
  refine (rhead_any a _).mono ?_
  rintro e w4 ⟨rfl, hw4⟩
  refine hK.out _ _ (Bun.below hw4 hS) (fun hS => ?_)
  clear hK K
  try simp only [Act.put, List.setIfInBounds_toArray, List.set_cons_zero, List.set_cons_succ]
  refine seqRead 6 (v := _) rfl (by kernel_rfl) (by kernel_rfl) (by kernel_rfl) (fun _ _ _ h => h) rfl (fun w hSw => by go_simp <;> with_reducible rfl) hS ?_
  try simp only [Act.put, List.setIfInBounds_toArray, List.set_cons_zero, List.set_cons_succ]
  refine seqRead 7 (v := _) rfl (by kernel_rfl) (by kernel_rfl) (by kernel_rfl) (fun _ _ _ h => h) rfl (fun w hSw => by go_simp <;> with_reducible rfl) hS ?_
  try simp only [Act.put, List.setIfInBounds_toArray, List.set_cons_zero, List.set_cons_succ]
  refine seqRead 8 (v := _) rfl (by kernel_rfl) (by kernel_rfl) (by kernel_rfl) (fun _ _ _ h => h) rfl (fun w hSw => by go_simp <;> with_reducible rfl) hS ?_
  try simp only [Act.put, List.setIfInBounds_toArray, List.set_cons_zero, List.set_cons_succ]
  refine seqRead 9 (v := _) rfl (by kernel_rfl) (by kernel_rfl) (by kernel_rfl) (fun _ _ _ h => h) rfl (fun w hSw => execHead rfl _ rfl x hSw.r2) hS ?_
  try simp only [Act.put, List.setIfInBounds_toArray, List.set_cons_zero, List.set_cons_succ]
  refine seqRead 10 (v := _) rfl (by kernel_rfl) (by kernel_rfl) (by kernel_rfl) (fun _ _ _ h => h) rfl (fun w hSw => execHead rfl _ rfl x hSw.r3) hS ?_
  try simp only [Act.put, List.setIfInBounds_toArray, List.set_cons_zero, List.set_cons_succ]
  refine seqRead 11 (v := _) rfl (by kernel_rfl) (by kernel_rfl) (by kernel_rfl) (fun _ _ _ h => h) rfl (fun w hSw => by go_simp <;> with_reducible rfl) hS ?_
  try simp only [Act.put, List.setIfInBounds_toArray, List.set_cons_zero, List.set_cons_succ]
  refine seqRead 12 (v := _) rfl (by kernel_rfl) (by kernel_rfl) (by kernel_rfl) (fun _ _ _ h => h) rfl (fun w hSw => by go_simp <;> with_reducible rfl) hS ?_
  try simp only [Act.put, List.setIfInBounds_toArray, List.set_cons_zero, List.set_cons_succ]
  refine seqRead 13 (v := _) rfl (by kernel_rfl) (by kernel_rfl) (by kernel_rfl) (fun _ _ _ h => h) rfl (fun w hSw => by go_simp <;> with_reducible rfl) hS ?_
  try simp only [Act.put, List.setIfInBounds_toArray, List.set_cons_zero, List.set_cons_succ]
  refine seqRead 14 (v := _) rfl (by kernel_rfl) (by kernel_rfl) (by kernel_rfl) (fun _ _ _ h => h) rfl (fun w hSw => by go_simp <;> with_reducible rfl) hS ?_
  try simp only [Act.put, List.setIfInBounds_toArray, List.set_cons_zero, List.set_cons_succ]
  refine seqRead 15 (v := _) rfl (by kernel_rfl) (by kernel_rfl) (by kernel_rfl) (fun _ _ _ h => h) rfl (fun w hSw => by go_simp <;> with_reducible rfl) hS ?_
  try simp only [Act.put, List.setIfInBounds_toArray, List.set_cons_zero, List.set_cons_succ]
  refine seqRead 16 (v := _) rfl (by kernel_rfl) (by kernel_rfl) (by kernel_rfl) (fun _ _ _ h => h) rfl (fun w hSw => by go_simp <;> with_reducible rfl) hS ?_
  try simp only [Act.put, List.setIfInBounds_toArray, List.set_cons_zero, List.set_cons_succ]
  refine seqRead 17 (v := _) rfl (by kernel_rfl) (by kernel_rfl) (by kernel_rfl) (fun _ _ _ h => h) rfl (fun w hSw => by go_simp <;> with_reducible rfl) hS ?_
  try simp only [Act.put, List.setIfInBounds_toArray, List.set_cons_zero, List.set_cons_succ]
  refine seqRead 18 (v := _) rfl (by kernel_rfl) (by kernel_rfl) (by kernel_rfl) (fun _ _ _ h => h) rfl (fun w hSw => by go_simp <;> with_reducible rfl) hS ?_
  try simp only [Act.put, List.setIfInBounds_toArray, List.set_cons_zero, List.set_cons_succ]
  refine seqRead 19 (v := _) rfl (by kernel_rfl) (by kernel_rfl) (by kernel_rfl) (fun _ _ _ h => h) rfl (fun w hSw => by go_simp <;> with_reducible rfl) hS ?_
  try simp only [Act.put, List.setIfInBounds_toArray, List.set_cons_zero, List.set_cons_succ]
  refine seqRead 20 (v := _) rfl (by kernel_rfl) (by kernel_rfl) (by kernel_rfl) (fun _ _ _ h => h) rfl (fun w hSw => by go_simp <;> with_reducible rfl) hS ?_
  try simp only [Act.put, List.setIfInBounds_toArray, List.set_cons_zero, List.set_cons_succ]
  refine seqRead 21 (v := _) rfl (by kernel_rfl) (by kernel_rfl) (by kernel_rfl) (fun _ _ _ h => h) rfl (fun w hSw => by go_simp <;> with_reducible rfl) hS ?_
  try simp only [Act.put, List.setIfInBounds_toArray, List.set_cons_zero, List.set_cons_succ]
  refine seqSkip 22 rfl (by kernel_rfl) (by kernel_rfl) (by kernel_rfl) (fun _ _ _ h => h) rfl hS ?_
  try simp only [Act.put, List.setIfInBounds_toArray, List.set_cons_zero, List.set_cons_succ]
  refine seqSkip 23 rfl (by kernel_rfl) (by kernel_rfl) (by kernel_rfl) (fun _ _ _ h => h) rfl hS ?_
  try simp only [Act.put, List.setIfInBounds_toArray, List.set_cons_zero, List.set_cons_succ]
  refine seqSkip 24 rfl (by kernel_rfl) (by kernel_rfl) (by kernel_rfl) (fun _ _ _ h => h) rfl hS ?_
  try simp only [Act.put, List.setIfInBounds_toArray, List.set_cons_zero, List.set_cons_succ]
  refine seqRead 25 (v := _) rfl (by kernel_rfl) (by kernel_rfl) (by kernel_rfl) (fun _ _ _ h => h) rfl (fun w hSw => by go_simp <;> with_reducible rfl) hS ?_
  try simp only [Act.put, List.setIfInBounds_toArray, List.set_cons_zero, List.set_cons_succ]
  refine seqRead 26 (v := _) rfl (by kernel_rfl) (by kernel_rfl) (by kernel_rfl) (fun _ _ _ h => h) rfl (fun w hSw => by go_simp <;> with_reducible rfl) hS ?_
  try simp only [Act.put, List.setIfInBounds_toArray, List.set_cons_zero, List.set_cons_succ]
  refine seqSkip 27 rfl (by kernel_rfl) (by kernel_rfl) (by kernel_rfl) (fun _ _ _ h => h) rfl hS ?_
  try simp only [Act.put, List.setIfInBounds_toArray, List.set_cons_zero, List.set_cons_succ]
  refine seqSkip 28 rfl (by kernel_rfl) (by kernel_rfl) (by kernel_rfl) (fun _ _ _ h => h) rfl hS ?_
  try simp only [Act.put, List.setIfInBounds_toArray, List.set_cons_zero, List.set_cons_succ]
  refine seqRead 29 (v := _) rfl (by kernel_rfl) (by kernel_rfl) (by kernel_rfl) (fun _ _ _ h => h) rfl (fun w hSw => by go_simp <;> with_reducible rfl) hS ?_
  try simp only [Act.put, List.setIfInBounds_toArray, List.set_cons_zero, List.set_cons_succ]
  refine seqRead 30 (v := _) rfl (by kernel_rfl) (by kernel_rfl) (by kernel_rfl) (fun _ _ _ h => h) rfl (fun w hSw => by go_simp <;> with_reducible rfl) hS ?_
  try simp only [Act.put, List.setIfInBounds_toArray, List.set_cons_zero, List.set_cons_succ]
  refine seqRead 31 (v := _) rfl (by kernel_rfl) (by kernel_rfl) (by kernel_rfl) (fun _ _ _ h => h) rfl (fun w hSw => by go_simp <;> with_reducible rfl) hS ?_
  try simp only [Act.put, List.setIfInBounds_toArray, List.set_cons_zero, List.set_cons_succ]
  refine seqDone (by kernel_rfl) ?_
  go_wp2
  go_ret
  exact ⟨by simp, hS.kept⟩
set_option maxHeartbeats 1000000 in
theorem sets_err13 (a x : Nat → Int) (n v : Int) (h0 : ∀ j, 0 ≤ a j) (w : World) (ht : Tab w) (hz : 0 < w.heap.size)
    (h1 : ∀ w, Tab w → 0 < w.heap.size → Calls Tryd.prog 18 #[.agg (hc a), .int .i64 n, .int .u64 v] w fun e' w' => e' = .returned (.tuple #[.agg (hc x), .int .i64 13]) ∧ Below w.heap.size w w')
    (h2 : ∀ w, Calls Tryd.prog 19 #[.agg (hc a), .int .i64 n, .int .u64 v] w fun e' w' => e' = .returned (.tuple #[.agg (hc x), .int .i64 13]) ∧ Below w.heap.size w w') :
    Calls Tryd.prog 5 #[.agg (hc a), .int .i64 n, .int .u64 v] w fun e w' => e = .returned (.bool true) ∧ Below w.heap.size w w' := by
  have HE := Lib.hid (show Env w w from ⟨ht, hz, Below.refl _ _⟩)
  have H1 := Lib.hid h1
  have H2 := Lib.hid h2
  have H0 := Lib.hid h0
  clear ht h1 h2 h0
  go_enter Tryd.func5, Tryd.ntmps5
  go_wp2_with (first
    | (refine wpList_load_row rfl 33 _ rfl w.heap.size rfl 33 (hc a) (0, 0) _ (heap_alloc_new _ _) Tryd.underlying33 rfl (by kernel_rfl) ?_)
    | (go_at_call 18; refine (H1.out _ (HE.out.below (below1 _ _)).1 (HE.out.below (below1 _ _)).2.1).mono ?_; rintro e w1 ⟨rfl, hw1⟩; have K1 := Lib.hid (kept1 hw1); clear hw1)
    | (refine wpList_store_row rfl 33 _ _ rfl w1.heap.size (hc x) rfl rfl 33 _ (heap_alloc_new _ _) (by kernel_rfl) rfl (hc_one _) ?_; rw [World.setRow_alloc_new])
    | (refine wpList_load_row rfl 33 _ rfl w.heap.size rfl 33 (hc a) (0, 0) _ ((heap_alloc_old _ _ K1.out.2.1).trans K1.out.1) Tryd.underlying33 rfl (by kernel_rfl) ?_)
    | (go_at_call 19; refine (H2.out _).mono ?_; rintro e w2 ⟨rfl, hw2⟩; have K2 := Lib.hid (kept1' K1.out hw2); clear hw2)
    | (refine wpList_store_row rfl 33 _ _ rfl w2.heap.size (hc x) rfl rfl 33 _ (heap_alloc_new _ _) (by kernel_rfl) rfl (hc_one _) ?_; rw [World.setRow_alloc_new]))
  have bun : Bun w w.heap.size w1.heap.size w2.heap.size a x x (w2.alloc (.cells (hc x) 33)).drew :=
    ⟨head_of_row ((heap_alloc_old _ _ (Nat.lt_trans K1.out.2.1 K2.out.2.2.1)).trans K2.out.1), head_of_row ((heap_alloc_old _ _ K2.out.2.2.1).trans K2.out.2.1), head_of_row (heap_alloc_new _ _), ((HE.out.below K2.out.2.2.2).below (below1 _ _)).drew⟩
  clear K1 K2 H1 H2 HE
  generalize (w2.alloc (.cells (hc x) 33)) = W at *
  refine wp_region_held_drew (S := Bun w w.heap.size w1.heap.size w2.heap.size a x x) (by kernel_rfl) bun (fun hS => ?_)
  clear bun
  have heq : ∀ w, (Op.equalIn 10000 33 (.agg (hl x).toArray) (.agg (hl x).toArray)).run Tryd.prog w = .ok true w := fun w => (eql_head x x w).trans (by rw [hEq_refl])
  have hgd := guardHead
  refine seqCall 0 rfl (by kernel_rfl) rfl (fun K hK => ?_)
  go_simp
  refine (answers_any _ hS.tab).mono ?_
  rintro e w' ⟨rfl, rfl⟩
  refine hK.out _ _ (hS) (fun hS => ?_)
  clear hK K
  try simp only [Act.put, List.setIfInBounds_toArray, List.set_cons_zero, List.set_cons_succ]
  refine seqRead 1 (v := _) rfl (by kernel_rfl) (by kernel_rfl) (by kernel_rfl) (fun _ _ _ h => h) rfl (fun w hSw => by go_simp <;> with_reducible rfl) hS ?_
  try simp only [Act.put, List.setIfInBounds_toArray, List.set_cons_zero, List.set_cons_succ]
  refine seqRead 2 (v := _) rfl (by kernel_rfl) (by kernel_rfl) (by kernel_rfl) (fun _ _ _ h => h) rfl (fun w hSw => execHead rfl _ rfl a hSw.r1) hS ?_
  try simp only [Act.put, List.setIfInBounds_toArray, List.set_cons_zero, List.set_cons_succ]
  refine seqRead 4 (v := _) rfl (by kernel_rfl) (by kernel_rfl) (by kernel_rfl) (fun _ _ _ h => h) rfl (fun w hSw => execHead rfl _ rfl a hSw.r1) hS ?_
  try simp only [Act.put, List.setIfInBounds_toArray, List.set_cons_zero, List.set_cons_succ]
  refine seqCall 3 rfl (by kernel_rfl) rfl (fun K hK => ?_)
  go_simp
  refine (sound_any a H0.out _ hS.tab hS.lt).mono ?_
  rintro e w3 ⟨rfl, hw3⟩
  refine hK.out _ _ (Bun.below hw3 hS) (fun hS => ?_)
  clear hK K
  try simp only [Act.put, List.setIfInBounds_toArray, List.set_cons_zero, List.set_cons_succ]
  refine seqCall 5 rfl (by kernel_rfl) rfl (fun K hK => ?_)
  go_simp
  refine (rhead_any a _).mono ?_
  rintro e w4 ⟨rfl, hw4⟩
  refine hK.out _ _ (Bun.below hw4 hS) (fun hS => ?_)
  clear hK K
  try simp only [Act.put, List.setIfInBounds_toArray, List.set_cons_zero, List.set_cons_succ]
  refine seqRead 6 (v := _) rfl (by kernel_rfl) (by kernel_rfl) (by kernel_rfl) (fun _ _ _ h => h) rfl (fun w hSw => by go_simp <;> with_reducible rfl) hS ?_
  try simp only [Act.put, List.setIfInBounds_toArray, List.set_cons_zero, List.set_cons_succ]
  refine seqRead 7 (v := _) rfl (by kernel_rfl) (by kernel_rfl) (by kernel_rfl) (fun _ _ _ h => h) rfl (fun w hSw => by go_simp <;> with_reducible rfl) hS ?_
  try simp only [Act.put, List.setIfInBounds_toArray, List.set_cons_zero, List.set_cons_succ]
  refine seqRead 8 (v := _) rfl (by kernel_rfl) (by kernel_rfl) (by kernel_rfl) (fun _ _ _ h => h) rfl (fun w hSw => by go_simp <;> with_reducible rfl) hS ?_
  try simp only [Act.put, List.setIfInBounds_toArray, List.set_cons_zero, List.set_cons_succ]
  refine seqRead 9 (v := _) rfl (by kernel_rfl) (by kernel_rfl) (by kernel_rfl) (fun _ _ _ h => h) rfl (fun w hSw => execHead rfl _ rfl x hSw.r2) hS ?_
  try simp only [Act.put, List.setIfInBounds_toArray, List.set_cons_zero, List.set_cons_succ]
  refine seqRead 10 (v := _) rfl (by kernel_rfl) (by kernel_rfl) (by kernel_rfl) (fun _ _ _ h => h) rfl (fun w hSw => execHead rfl _ rfl x hSw.r3) hS ?_
  try simp only [Act.put, List.setIfInBounds_toArray, List.set_cons_zero, List.set_cons_succ]
  refine seqRead 11 (v := _) rfl (by kernel_rfl) (by kernel_rfl) (by kernel_rfl) (fun _ _ _ h => h) rfl (fun w hSw => by go_simp <;> with_reducible rfl) hS ?_
  try simp only [Act.put, List.setIfInBounds_toArray, List.set_cons_zero, List.set_cons_succ]
  refine seqRead 12 (v := _) rfl (by kernel_rfl) (by kernel_rfl) (by kernel_rfl) (fun _ _ _ h => h) rfl (fun w hSw => by go_simp <;> with_reducible rfl) hS ?_
  try simp only [Act.put, List.setIfInBounds_toArray, List.set_cons_zero, List.set_cons_succ]
  refine seqRead 13 (v := _) rfl (by kernel_rfl) (by kernel_rfl) (by kernel_rfl) (fun _ _ _ h => h) rfl (fun w hSw => by go_simp <;> with_reducible rfl) hS ?_
  try simp only [Act.put, List.setIfInBounds_toArray, List.set_cons_zero, List.set_cons_succ]
  refine seqRead 14 (v := _) rfl (by kernel_rfl) (by kernel_rfl) (by kernel_rfl) (fun _ _ _ h => h) rfl (fun w hSw => by go_simp <;> with_reducible rfl) hS ?_
  try simp only [Act.put, List.setIfInBounds_toArray, List.set_cons_zero, List.set_cons_succ]
  refine seqRead 15 (v := _) rfl (by kernel_rfl) (by kernel_rfl) (by kernel_rfl) (fun _ _ _ h => h) rfl (fun w hSw => by go_simp <;> with_reducible rfl) hS ?_
  try simp only [Act.put, List.setIfInBounds_toArray, List.set_cons_zero, List.set_cons_succ]
  refine seqRead 16 (v := _) rfl (by kernel_rfl) (by kernel_rfl) (by kernel_rfl) (fun _ _ _ h => h) rfl (fun w hSw => by go_simp <;> with_reducible rfl) hS ?_
  try simp only [Act.put, List.setIfInBounds_toArray, List.set_cons_zero, List.set_cons_succ]
  refine seqRead 17 (v := _) rfl (by kernel_rfl) (by kernel_rfl) (by kernel_rfl) (fun _ _ _ h => h) rfl (fun w hSw => by go_simp <;> with_reducible rfl) hS ?_
  try simp only [Act.put, List.setIfInBounds_toArray, List.set_cons_zero, List.set_cons_succ]
  refine seqRead 18 (v := _) rfl (by kernel_rfl) (by kernel_rfl) (by kernel_rfl) (fun _ _ _ h => h) rfl (fun w hSw => by go_simp <;> with_reducible rfl) hS ?_
  try simp only [Act.put, List.setIfInBounds_toArray, List.set_cons_zero, List.set_cons_succ]
  refine seqRead 19 (v := _) rfl (by kernel_rfl) (by kernel_rfl) (by kernel_rfl) (fun _ _ _ h => h) rfl (fun w hSw => by go_simp <;> with_reducible rfl) hS ?_
  try simp only [Act.put, List.setIfInBounds_toArray, List.set_cons_zero, List.set_cons_succ]
  refine seqRead 20 (v := _) rfl (by kernel_rfl) (by kernel_rfl) (by kernel_rfl) (fun _ _ _ h => h) rfl (fun w hSw => by go_simp <;> with_reducible rfl) hS ?_
  try simp only [Act.put, List.setIfInBounds_toArray, List.set_cons_zero, List.set_cons_succ]
  refine seqRead 21 (v := _) rfl (by kernel_rfl) (by kernel_rfl) (by kernel_rfl) (fun _ _ _ h => h) rfl (fun w hSw => by go_simp <;> with_reducible rfl) hS ?_
  try simp only [Act.put, List.setIfInBounds_toArray, List.set_cons_zero, List.set_cons_succ]
  refine seqSkip 22 rfl (by kernel_rfl) (by kernel_rfl) (by kernel_rfl) (fun _ _ _ h => h) rfl hS ?_
  try simp only [Act.put, List.setIfInBounds_toArray, List.set_cons_zero, List.set_cons_succ]
  refine seqSkip 23 rfl (by kernel_rfl) (by kernel_rfl) (by kernel_rfl) (fun _ _ _ h => h) rfl hS ?_
  try simp only [Act.put, List.setIfInBounds_toArray, List.set_cons_zero, List.set_cons_succ]
  refine seqSkip 24 rfl (by kernel_rfl) (by kernel_rfl) (by kernel_rfl) (fun _ _ _ h => h) rfl hS ?_
  try simp only [Act.put, List.setIfInBounds_toArray, List.set_cons_zero, List.set_cons_succ]
  refine seqRead 25 (v := _) rfl (by kernel_rfl) (by kernel_rfl) (by kernel_rfl) (fun _ _ _ h => h) rfl (fun w hSw => by go_simp <;> with_reducible rfl) hS ?_
  try simp only [Act.put, List.setIfInBounds_toArray, List.set_cons_zero, List.set_cons_succ]
  refine seqRead 26 (v := _) rfl (by kernel_rfl) (by kernel_rfl) (by kernel_rfl) (fun _ _ _ h => h) rfl (fun w hSw => by go_simp <;> with_reducible rfl) hS ?_
  try simp only [Act.put, List.setIfInBounds_toArray, List.set_cons_zero, List.set_cons_succ]
  refine seqSkip 27 rfl (by kernel_rfl) (by kernel_rfl) (by kernel_rfl) (fun _ _ _ h => h) rfl hS ?_
  try simp only [Act.put, List.setIfInBounds_toArray, List.set_cons_zero, List.set_cons_succ]
  refine seqSkip 28 rfl (by kernel_rfl) (by kernel_rfl) (by kernel_rfl) (fun _ _ _ h => h) rfl hS ?_
  try simp only [Act.put, List.setIfInBounds_toArray, List.set_cons_zero, List.set_cons_succ]
  refine seqRead 29 (v := _) rfl (by kernel_rfl) (by kernel_rfl) (by kernel_rfl) (fun _ _ _ h => h) rfl (fun w hSw => by go_simp <;> with_reducible rfl) hS ?_
  try simp only [Act.put, List.setIfInBounds_toArray, List.set_cons_zero, List.set_cons_succ]
  refine seqRead 30 (v := _) rfl (by kernel_rfl) (by kernel_rfl) (by kernel_rfl) (fun _ _ _ h => h) rfl (fun w hSw => by go_simp <;> with_reducible rfl) hS ?_
  try simp only [Act.put, List.setIfInBounds_toArray, List.set_cons_zero, List.set_cons_succ]
  refine seqRead 31 (v := _) rfl (by kernel_rfl) (by kernel_rfl) (by kernel_rfl) (fun _ _ _ h => h) rfl (fun w hSw => by go_simp <;> with_reducible rfl) hS ?_
  try simp only [Act.put, List.setIfInBounds_toArray, List.set_cons_zero, List.set_cons_succ]
  refine seqDone (by kernel_rfl) ?_
  go_wp2
  go_ret
  exact ⟨by simp, hS.kept⟩
set_option maxHeartbeats 1000000 in
theorem sets_unsound (a x : Nat → Int) (n v : Int) (h0 : ∀ j, 0 ≤ a j) (hs : sndB a = false) (w : World) (ht : Tab w) (hz : 0 < w.heap.size)
    (h1 : ∀ w, Tab w → 0 < w.heap.size → Calls Tryd.prog 18 #[.agg (hc a), .int .i64 n, .int .u64 v] w fun e' w' => e' = .returned (.tuple #[.agg (hc x), .int .i64 0]) ∧ Below w.heap.size w w')
    (h2 : ∀ w, Calls Tryd.prog 19 #[.agg (hc a), .int .i64 n, .int .u64 v] w fun e' w' => e' = .returned (.tuple #[.agg (hc x), .int .i64 0]) ∧ Below w.heap.size w w') :
    Calls Tryd.prog 5 #[.agg (hc a), .int .i64 n, .int .u64 v] w fun e w' => e = .returned (.bool true) ∧ Below w.heap.size w w' := by
  have HE := Lib.hid (show Env w w from ⟨ht, hz, Below.refl _ _⟩)
  have H1 := Lib.hid h1
  have H2 := Lib.hid h2
  have H0 := Lib.hid h0
  clear ht h1 h2 h0
  go_enter Tryd.func5, Tryd.ntmps5
  go_wp2_with (first
    | (refine wpList_load_row rfl 33 _ rfl w.heap.size rfl 33 (hc a) (0, 0) _ (heap_alloc_new _ _) Tryd.underlying33 rfl (by kernel_rfl) ?_)
    | (go_at_call 18; refine (H1.out _ (HE.out.below (below1 _ _)).1 (HE.out.below (below1 _ _)).2.1).mono ?_; rintro e w1 ⟨rfl, hw1⟩; have K1 := Lib.hid (kept1 hw1); clear hw1)
    | (refine wpList_store_row rfl 33 _ _ rfl w1.heap.size (hc x) rfl rfl 33 _ (heap_alloc_new _ _) (by kernel_rfl) rfl (hc_one _) ?_; rw [World.setRow_alloc_new])
    | (refine wpList_load_row rfl 33 _ rfl w.heap.size rfl 33 (hc a) (0, 0) _ ((heap_alloc_old _ _ K1.out.2.1).trans K1.out.1) Tryd.underlying33 rfl (by kernel_rfl) ?_)
    | (go_at_call 19; refine (H2.out _).mono ?_; rintro e w2 ⟨rfl, hw2⟩; have K2 := Lib.hid (kept1' K1.out hw2); clear hw2)
    | (refine wpList_store_row rfl 33 _ _ rfl w2.heap.size (hc x) rfl rfl 33 _ (heap_alloc_new _ _) (by kernel_rfl) rfl (hc_one _) ?_; rw [World.setRow_alloc_new]))
  have bun : Bun w w.heap.size w1.heap.size w2.heap.size a x x (w2.alloc (.cells (hc x) 33)).drew :=
    ⟨head_of_row ((heap_alloc_old _ _ (Nat.lt_trans K1.out.2.1 K2.out.2.2.1)).trans K2.out.1), head_of_row ((heap_alloc_old _ _ K2.out.2.2.1).trans K2.out.2.1), head_of_row (heap_alloc_new _ _), ((HE.out.below K2.out.2.2.2).below (below1 _ _)).drew⟩
  clear K1 K2 H1 H2 HE
  generalize (w2.alloc (.cells (hc x) 33)) = W at *
  refine wp_region_held_drew (S := Bun w w.heap.size w1.heap.size w2.heap.size a x x) (by kernel_rfl) bun (fun hS => ?_)
  clear bun
  have heq : ∀ w, (Op.equalIn 10000 33 (.agg (hl x).toArray) (.agg (hl x).toArray)).run Tryd.prog w = .ok true w := fun w => (eql_head x x w).trans (by rw [hEq_refl])
  have hgd := guardHead
  refine seqCall 0 rfl (by kernel_rfl) rfl (fun K hK => ?_)
  go_simp
  refine (answers_any _ hS.tab).mono ?_
  rintro e w' ⟨rfl, rfl⟩
  refine hK.out _ _ (hS) (fun hS => ?_)
  clear hK K
  try simp only [Act.put, List.setIfInBounds_toArray, List.set_cons_zero, List.set_cons_succ]
  refine seqRead 1 (v := _) rfl (by kernel_rfl) (by kernel_rfl) (by kernel_rfl) (fun _ _ _ h => h) rfl (fun w hSw => by go_simp <;> with_reducible rfl) hS ?_
  try simp only [Act.put, List.setIfInBounds_toArray, List.set_cons_zero, List.set_cons_succ]
  refine seqRead 2 (v := _) rfl (by kernel_rfl) (by kernel_rfl) (by kernel_rfl) (fun _ _ _ h => h) rfl (fun w hSw => execHead rfl _ rfl a hSw.r1) hS ?_
  try simp only [Act.put, List.setIfInBounds_toArray, List.set_cons_zero, List.set_cons_succ]
  refine seqRead 4 (v := _) rfl (by kernel_rfl) (by kernel_rfl) (by kernel_rfl) (fun _ _ _ h => h) rfl (fun w hSw => execHead rfl _ rfl a hSw.r1) hS ?_
  try simp only [Act.put, List.setIfInBounds_toArray, List.set_cons_zero, List.set_cons_succ]
  refine seqCall 3 rfl (by kernel_rfl) rfl (fun K hK => ?_)
  go_simp
  refine (sound_any a H0.out _ hS.tab hS.lt).mono ?_
  rintro e w3 ⟨rfl, hw3⟩
  refine hK.out _ _ (Bun.below hw3 hS) (fun hS => ?_)
  clear hK K
  try simp only [Act.put, List.setIfInBounds_toArray, List.set_cons_zero, List.set_cons_succ]
  refine seqCall 5 rfl (by kernel_rfl) rfl (fun K hK => ?_)
  go_simp
  refine (rhead_any a _).mono ?_
  rintro e w4 ⟨rfl, hw4⟩
  refine hK.out _ _ (Bun.below hw4 hS) (fun hS => ?_)
  clear hK K
  try simp only [Act.put, List.setIfInBounds_toArray, List.set_cons_zero, List.set_cons_succ]
  refine seqRead 6 (v := _) rfl (by kernel_rfl) (by kernel_rfl) (by kernel_rfl) (fun _ _ _ h => h) rfl (fun w hSw => by go_simp <;> with_reducible rfl) hS ?_
  try simp only [Act.put, List.setIfInBounds_toArray, List.set_cons_zero, List.set_cons_succ]
  refine seqRead 7 (v := _) rfl (by kernel_rfl) (by kernel_rfl) (by kernel_rfl) (fun _ _ _ h => h) rfl (fun w hSw => by go_simp <;> with_reducible rfl) hS ?_
  try simp only [Act.put, List.setIfInBounds_toArray, List.set_cons_zero, List.set_cons_succ]
  refine seqRead 8 (v := _) rfl (by kernel_rfl) (by kernel_rfl) (by kernel_rfl) (fun _ _ _ h => h) rfl (fun w hSw => by go_simp <;> with_reducible rfl) hS ?_
  try simp only [Act.put, List.setIfInBounds_toArray, List.set_cons_zero, List.set_cons_succ]
  refine seqRead 9 (v := _) rfl (by kernel_rfl) (by kernel_rfl) (by kernel_rfl) (fun _ _ _ h => h) rfl (fun w hSw => execHead rfl _ rfl x hSw.r2) hS ?_
  try simp only [Act.put, List.setIfInBounds_toArray, List.set_cons_zero, List.set_cons_succ]
  refine seqRead 10 (v := _) rfl (by kernel_rfl) (by kernel_rfl) (by kernel_rfl) (fun _ _ _ h => h) rfl (fun w hSw => execHead rfl _ rfl x hSw.r3) hS ?_
  try simp only [Act.put, List.setIfInBounds_toArray, List.set_cons_zero, List.set_cons_succ]
  refine seqRead 11 (v := _) rfl (by kernel_rfl) (by kernel_rfl) (by kernel_rfl) (fun _ _ _ h => h) rfl (fun w hSw => by go_simp <;> with_reducible rfl) hS ?_
  try simp only [Act.put, List.setIfInBounds_toArray, List.set_cons_zero, List.set_cons_succ]
  refine seqRead 12 (v := _) rfl (by kernel_rfl) (by kernel_rfl) (by kernel_rfl) (fun _ _ _ h => h) rfl (fun w hSw => by go_simp <;> with_reducible rfl) hS ?_
  try simp only [Act.put, List.setIfInBounds_toArray, List.set_cons_zero, List.set_cons_succ]
  refine seqRead 13 (v := _) rfl (by kernel_rfl) (by kernel_rfl) (by kernel_rfl) (fun _ _ _ h => h) rfl (fun w hSw => by go_simp <;> with_reducible rfl) hS ?_
  try simp only [Act.put, List.setIfInBounds_toArray, List.set_cons_zero, List.set_cons_succ]
  refine seqRead 14 (v := _) rfl (by kernel_rfl) (by kernel_rfl) (by kernel_rfl) (fun _ _ _ h => h) rfl (fun w hSw => by go_simp <;> with_reducible rfl) hS ?_
  try simp only [Act.put, List.setIfInBounds_toArray, List.set_cons_zero, List.set_cons_succ]
  refine seqRead 15 (v := _) rfl (by kernel_rfl) (by kernel_rfl) (by kernel_rfl) (fun _ _ _ h => h) rfl (fun w hSw => by go_simp <;> with_reducible rfl) hS ?_
  try simp only [Act.put, List.setIfInBounds_toArray, List.set_cons_zero, List.set_cons_succ]
  refine seqRead 16 (v := _) rfl (by kernel_rfl) (by kernel_rfl) (by kernel_rfl) (fun _ _ _ h => h) rfl (fun w hSw => by go_simp <;> with_reducible rfl) hS ?_
  try simp only [Act.put, List.setIfInBounds_toArray, List.set_cons_zero, List.set_cons_succ]
  refine seqRead 17 (v := _) rfl (by kernel_rfl) (by kernel_rfl) (by kernel_rfl) (fun _ _ _ h => h) rfl (fun w hSw => by go_simp <;> with_reducible rfl) hS ?_
  try simp only [Act.put, List.setIfInBounds_toArray, List.set_cons_zero, List.set_cons_succ]
  refine seqRead 18 (v := _) rfl (by kernel_rfl) (by kernel_rfl) (by kernel_rfl) (fun _ _ _ h => h) rfl (fun w hSw => by go_simp <;> with_reducible rfl) hS ?_
  try simp only [Act.put, List.setIfInBounds_toArray, List.set_cons_zero, List.set_cons_succ]
  refine seqRead 19 (v := _) rfl (by kernel_rfl) (by kernel_rfl) (by kernel_rfl) (fun _ _ _ h => h) rfl (fun w hSw => by go_simp <;> with_reducible rfl) hS ?_
  try simp only [Act.put, List.setIfInBounds_toArray, List.set_cons_zero, List.set_cons_succ]
  refine seqRead 20 (v := _) rfl (by kernel_rfl) (by kernel_rfl) (by kernel_rfl) (fun _ _ _ h => h) rfl (fun w hSw => by go_simp <;> with_reducible rfl) hS ?_
  try simp only [Act.put, List.setIfInBounds_toArray, List.set_cons_zero, List.set_cons_succ]
  refine seqRead 21 (v := _) rfl (by kernel_rfl) (by kernel_rfl) (by kernel_rfl) (fun _ _ _ h => h) rfl (fun w hSw => by go_simp <;> with_reducible rfl) hS ?_
  try simp only [Act.put, List.setIfInBounds_toArray, List.set_cons_zero, List.set_cons_succ]
  refine seqRead 22 (v := _) rfl (by kernel_rfl) (by kernel_rfl) (by kernel_rfl) (fun _ _ _ h => h) rfl (fun w hSw => execHead rfl _ rfl a hSw.r1) hS ?_
  try simp only [Act.put, List.setIfInBounds_toArray, List.set_cons_zero, List.set_cons_succ]
  refine seqCall 23 rfl (by kernel_rfl) rfl (fun K hK => ?_)
  go_simp
  refine (rhead_any a _).mono ?_
  rintro e w6 ⟨rfl, hw6⟩
  refine hK.out _ _ (Bun.below hw6 hS) (fun hS => ?_)
  clear hK K
  try simp only [Act.put, List.setIfInBounds_toArray, List.set_cons_zero, List.set_cons_succ]
  refine seqRead 24 (v := _) rfl (by kernel_rfl) (by kernel_rfl) (by kernel_rfl) (fun _ _ _ h => h) rfl (fun w hSw => by go_simp <;> with_reducible rfl) hS ?_
  try simp only [Act.put, List.setIfInBounds_toArray, List.set_cons_zero, List.set_cons_succ]
  refine seqRead 25 (v := _) rfl (by kernel_rfl) (by kernel_rfl) (by kernel_rfl) (fun _ _ _ h => h) rfl (fun w hSw => by go_simp <;> with_reducible rfl) hS ?_
  try simp only [Act.put, List.setIfInBounds_toArray, List.set_cons_zero, List.set_cons_succ]
  refine seqRead 26 (v := _) rfl (by kernel_rfl) (by kernel_rfl) (by kernel_rfl) (fun _ _ _ h => h) rfl (fun w hSw => by go_simp <;> with_reducible rfl) hS ?_
  try simp only [Act.put, List.setIfInBounds_toArray, List.set_cons_zero, List.set_cons_succ]
  refine seqSkip 27 rfl (by kernel_rfl) (by kernel_rfl) (by kernel_rfl) (fun _ _ _ h => h) rfl hS ?_
  try simp only [Act.put, List.setIfInBounds_toArray, List.set_cons_zero, List.set_cons_succ]
  refine seqSkip 28 rfl (by kernel_rfl) (by kernel_rfl) (by kernel_rfl) (fun _ _ _ h => h) rfl hS ?_
  try simp only [Act.put, List.setIfInBounds_toArray, List.set_cons_zero, List.set_cons_succ]
  refine seqRead 29 (v := _) rfl (by kernel_rfl) (by kernel_rfl) (by kernel_rfl) (fun _ _ _ h => h) rfl (fun w hSw => by go_simp <;> with_reducible rfl) hS ?_
  try simp only [Act.put, List.setIfInBounds_toArray, List.set_cons_zero, List.set_cons_succ]
  refine seqRead 30 (v := _) rfl (by kernel_rfl) (by kernel_rfl) (by kernel_rfl) (fun _ _ _ h => h) rfl (fun w hSw => by go_simp <;> with_reducible rfl) hS ?_
  try simp only [Act.put, List.setIfInBounds_toArray, List.set_cons_zero, List.set_cons_succ]
  refine seqRead 31 (v := _) rfl (by kernel_rfl) (by kernel_rfl) (by kernel_rfl) (fun _ _ _ h => h) rfl (fun w hSw => by go_simp <;> with_reducible rfl) hS ?_
  try simp only [Act.put, List.setIfInBounds_toArray, List.set_cons_zero, List.set_cons_succ]
  refine seqDone (by kernel_rfl) ?_
  go_wp2
  go_ret
  exact ⟨by simp, hS.kept⟩
set_option maxHeartbeats 1000000 in
theorem sets_sound (a x : Nat → Int) (n v : Int) (h0 : ∀ j, 0 ≤ a j) (x0 : ∀ j, 0 ≤ x j) (hs : sndB a = true) (hx : sndB x = true) (w : World) (ht : Tab w) (hz : 0 < w.heap.size)
    (h1 : ∀ w, Tab w → 0 < w.heap.size → Calls Tryd.prog 18 #[.agg (hc a), .int .i64 n, .int .u64 v] w fun e' w' => e' = .returned (.tuple #[.agg (hc x), .int .i64 0]) ∧ Below w.heap.size w w')
    (h2 : ∀ w, Calls Tryd.prog 19 #[.agg (hc a), .int .i64 n, .int .u64 v] w fun e' w' => e' = .returned (.tuple #[.agg (hc x), .int .i64 0]) ∧ Below w.heap.size w w') :
    Calls Tryd.prog 5 #[.agg (hc a), .int .i64 n, .int .u64 v] w fun e w' => e = .returned (.bool true) ∧ Below w.heap.size w w' := by
  have HE := Lib.hid (show Env w w from ⟨ht, hz, Below.refl _ _⟩)
  have H1 := Lib.hid h1
  have H2 := Lib.hid h2
  have H0 := Lib.hid h0
  have X0 := Lib.hid x0
  clear ht h1 h2 h0 x0
  go_enter Tryd.func5, Tryd.ntmps5
  go_wp2_with (first
    | (refine wpList_load_row rfl 33 _ rfl w.heap.size rfl 33 (hc a) (0, 0) _ (heap_alloc_new _ _) Tryd.underlying33 rfl (by kernel_rfl) ?_)
    | (go_at_call 18; refine (H1.out _ (HE.out.below (below1 _ _)).1 (HE.out.below (below1 _ _)).2.1).mono ?_; rintro e w1 ⟨rfl, hw1⟩; have K1 := Lib.hid (kept1 hw1); clear hw1)
    | (refine wpList_store_row rfl 33 _ _ rfl w1.heap.size (hc x) rfl rfl 33 _ (heap_alloc_new _ _) (by kernel_rfl) rfl (hc_one _) ?_; rw [World.setRow_alloc_new])
    | (refine wpList_load_row rfl 33 _ rfl w.heap.size rfl 33 (hc a) (0, 0) _ ((heap_alloc_old _ _ K1.out.2.1).trans K1.out.1) Tryd.underlying33 rfl (by kernel_rfl) ?_)
    | (go_at_call 19; refine (H2.out _).mono ?_; rintro e w2 ⟨rfl, hw2⟩; have K2 := Lib.hid (kept1' K1.out hw2); clear hw2)
    | (refine wpList_store_row rfl 33 _ _ rfl w2.heap.size (hc x) rfl rfl 33 _ (heap_alloc_new _ _) (by kernel_rfl) rfl (hc_one _) ?_; rw [World.setRow_alloc_new]))
  have bun : Bun w w.heap.size w1.heap.size w2.heap.size a x x (w2.alloc (.cells (hc x) 33)).drew :=
    ⟨head_of_row ((heap_alloc_old _ _ (Nat.lt_trans K1.out.2.1 K2.out.2.2.1)).trans K2.out.1), head_of_row ((heap_alloc_old _ _ K2.out.2.2.1).trans K2.out.2.1), head_of_row (heap_alloc_new _ _), ((HE.out.below K2.out.2.2.2).below (below1 _ _)).drew⟩
  clear K1 K2 H1 H2 HE
  generalize (w2.alloc (.cells (hc x) 33)) = W at *
  refine wp_region_held_drew (S := Bun w w.heap.size w1.heap.size w2.heap.size a x x) (by kernel_rfl) bun (fun hS => ?_)
  clear bun
  have heq : ∀ w, (Op.equalIn 10000 33 (.agg (hl x).toArray) (.agg (hl x).toArray)).run Tryd.prog w = .ok true w := fun w => (eql_head x x w).trans (by rw [hEq_refl])
  have hgd := guardHead
  refine seqCall 0 rfl (by kernel_rfl) rfl (fun K hK => ?_)
  go_simp
  refine (answers_any _ hS.tab).mono ?_
  rintro e w' ⟨rfl, rfl⟩
  refine hK.out _ _ (hS) (fun hS => ?_)
  clear hK K
  try simp only [Act.put, List.setIfInBounds_toArray, List.set_cons_zero, List.set_cons_succ]
  refine seqRead 1 (v := _) rfl (by kernel_rfl) (by kernel_rfl) (by kernel_rfl) (fun _ _ _ h => h) rfl (fun w hSw => by go_simp <;> with_reducible rfl) hS ?_
  try simp only [Act.put, List.setIfInBounds_toArray, List.set_cons_zero, List.set_cons_succ]
  refine seqRead 2 (v := _) rfl (by kernel_rfl) (by kernel_rfl) (by kernel_rfl) (fun _ _ _ h => h) rfl (fun w hSw => execHead rfl _ rfl a hSw.r1) hS ?_
  try simp only [Act.put, List.setIfInBounds_toArray, List.set_cons_zero, List.set_cons_succ]
  refine seqRead 4 (v := _) rfl (by kernel_rfl) (by kernel_rfl) (by kernel_rfl) (fun _ _ _ h => h) rfl (fun w hSw => execHead rfl _ rfl a hSw.r1) hS ?_
  try simp only [Act.put, List.setIfInBounds_toArray, List.set_cons_zero, List.set_cons_succ]
  refine seqCall 3 rfl (by kernel_rfl) rfl (fun K hK => ?_)
  go_simp
  refine (sound_any a H0.out _ hS.tab hS.lt).mono ?_
  rintro e w3 ⟨rfl, hw3⟩
  refine hK.out _ _ (Bun.below hw3 hS) (fun hS => ?_)
  clear hK K
  try simp only [Act.put, List.setIfInBounds_toArray, List.set_cons_zero, List.set_cons_succ]
  refine seqCall 5 rfl (by kernel_rfl) rfl (fun K hK => ?_)
  go_simp
  refine (rhead_any a _).mono ?_
  rintro e w4 ⟨rfl, hw4⟩
  refine hK.out _ _ (Bun.below hw4 hS) (fun hS => ?_)
  clear hK K
  try simp only [Act.put, List.setIfInBounds_toArray, List.set_cons_zero, List.set_cons_succ]
  refine seqRead 6 (v := _) rfl (by kernel_rfl) (by kernel_rfl) (by kernel_rfl) (fun _ _ _ h => h) rfl (fun w hSw => by go_simp <;> with_reducible rfl) hS ?_
  try simp only [Act.put, List.setIfInBounds_toArray, List.set_cons_zero, List.set_cons_succ]
  refine seqRead 7 (v := _) rfl (by kernel_rfl) (by kernel_rfl) (by kernel_rfl) (fun _ _ _ h => h) rfl (fun w hSw => by go_simp <;> with_reducible rfl) hS ?_
  try simp only [Act.put, List.setIfInBounds_toArray, List.set_cons_zero, List.set_cons_succ]
  refine seqRead 8 (v := _) rfl (by kernel_rfl) (by kernel_rfl) (by kernel_rfl) (fun _ _ _ h => h) rfl (fun w hSw => by go_simp <;> with_reducible rfl) hS ?_
  try simp only [Act.put, List.setIfInBounds_toArray, List.set_cons_zero, List.set_cons_succ]
  refine seqRead 9 (v := _) rfl (by kernel_rfl) (by kernel_rfl) (by kernel_rfl) (fun _ _ _ h => h) rfl (fun w hSw => execHead rfl _ rfl x hSw.r2) hS ?_
  try simp only [Act.put, List.setIfInBounds_toArray, List.set_cons_zero, List.set_cons_succ]
  refine seqRead 10 (v := _) rfl (by kernel_rfl) (by kernel_rfl) (by kernel_rfl) (fun _ _ _ h => h) rfl (fun w hSw => execHead rfl _ rfl x hSw.r3) hS ?_
  try simp only [Act.put, List.setIfInBounds_toArray, List.set_cons_zero, List.set_cons_succ]
  refine seqRead 11 (v := _) rfl (by kernel_rfl) (by kernel_rfl) (by kernel_rfl) (fun _ _ _ h => h) rfl (fun w hSw => by go_simp <;> with_reducible rfl) hS ?_
  try simp only [Act.put, List.setIfInBounds_toArray, List.set_cons_zero, List.set_cons_succ]
  refine seqRead 12 (v := _) rfl (by kernel_rfl) (by kernel_rfl) (by kernel_rfl) (fun _ _ _ h => h) rfl (fun w hSw => by go_simp <;> with_reducible rfl) hS ?_
  try simp only [Act.put, List.setIfInBounds_toArray, List.set_cons_zero, List.set_cons_succ]
  refine seqRead 13 (v := _) rfl (by kernel_rfl) (by kernel_rfl) (by kernel_rfl) (fun _ _ _ h => h) rfl (fun w hSw => by go_simp <;> with_reducible rfl) hS ?_
  try simp only [Act.put, List.setIfInBounds_toArray, List.set_cons_zero, List.set_cons_succ]
  refine seqRead 14 (v := _) rfl (by kernel_rfl) (by kernel_rfl) (by kernel_rfl) (fun _ _ _ h => h) rfl (fun w hSw => by go_simp <;> with_reducible rfl) hS ?_
  try simp only [Act.put, List.setIfInBounds_toArray, List.set_cons_zero, List.set_cons_succ]
  refine seqRead 15 (v := _) rfl (by kernel_rfl) (by kernel_rfl) (by kernel_rfl) (fun _ _ _ h => h) rfl (fun w hSw => by go_simp <;> with_reducible rfl) hS ?_
  try simp only [Act.put, List.setIfInBounds_toArray, List.set_cons_zero, List.set_cons_succ]
  refine seqRead 16 (v := _) rfl (by kernel_rfl) (by kernel_rfl) (by kernel_rfl) (fun _ _ _ h => h) rfl (fun w hSw => by go_simp <;> with_reducible rfl) hS ?_
  try simp only [Act.put, List.setIfInBounds_toArray, List.set_cons_zero, List.set_cons_succ]
  refine seqRead 17 (v := _) rfl (by kernel_rfl) (by kernel_rfl) (by kernel_rfl) (fun _ _ _ h => h) rfl (fun w hSw => by go_simp <;> with_reducible rfl) hS ?_
  try simp only [Act.put, List.setIfInBounds_toArray, List.set_cons_zero, List.set_cons_succ]
  refine seqRead 18 (v := _) rfl (by kernel_rfl) (by kernel_rfl) (by kernel_rfl) (fun _ _ _ h => h) rfl (fun w hSw => by go_simp <;> with_reducible rfl) hS ?_
  try simp only [Act.put, List.setIfInBounds_toArray, List.set_cons_zero, List.set_cons_succ]
  refine seqRead 19 (v := _) rfl (by kernel_rfl) (by kernel_rfl) (by kernel_rfl) (fun _ _ _ h => h) rfl (fun w hSw => by go_simp <;> with_reducible rfl) hS ?_
  try simp only [Act.put, List.setIfInBounds_toArray, List.set_cons_zero, List.set_cons_succ]
  refine seqRead 20 (v := _) rfl (by kernel_rfl) (by kernel_rfl) (by kernel_rfl) (fun _ _ _ h => h) rfl (fun w hSw => by go_simp <;> with_reducible rfl) hS ?_
  try simp only [Act.put, List.setIfInBounds_toArray, List.set_cons_zero, List.set_cons_succ]
  refine seqRead 21 (v := _) rfl (by kernel_rfl) (by kernel_rfl) (by kernel_rfl) (fun _ _ _ h => h) rfl (fun w hSw => by go_simp <;> with_reducible rfl) hS ?_
  try simp only [Act.put, List.setIfInBounds_toArray, List.set_cons_zero, List.set_cons_succ]
  refine seqRead 22 (v := _) rfl (by kernel_rfl) (by kernel_rfl) (by kernel_rfl) (fun _ _ _ h => h) rfl (fun w hSw => execHead rfl _ rfl a hSw.r1) hS ?_
  try simp only [Act.put, List.setIfInBounds_toArray, List.set_cons_zero, List.set_cons_succ]
  refine seqCall 23 rfl (by kernel_rfl) rfl (fun K hK => ?_)
  go_simp
  refine (rhead_any a _).mono ?_
  rintro e w6 ⟨rfl, hw6⟩
  refine hK.out _ _ (Bun.below hw6 hS) (fun hS => ?_)
  clear hK K
  try simp only [Act.put, List.setIfInBounds_toArray, List.set_cons_zero, List.set_cons_succ]
  refine seqRead 24 (v := _) rfl (by kernel_rfl) (by kernel_rfl) (by kernel_rfl) (fun _ _ _ h => h) rfl (fun w hSw => by go_simp <;> with_reducible rfl) hS ?_
  try simp only [Act.put, List.setIfInBounds_toArray, List.set_cons_zero, List.set_cons_succ]
  refine seqRead 25 (v := _) rfl (by kernel_rfl) (by kernel_rfl) (by kernel_rfl) (fun _ _ _ h => h) rfl (fun w hSw => by go_simp <;> with_reducible rfl) hS ?_
  try simp only [Act.put, List.setIfInBounds_toArray, List.set_cons_zero, List.set_cons_succ]
  refine seqRead 26 (v := _) rfl (by kernel_rfl) (by kernel_rfl) (by kernel_rfl) (fun _ _ _ h => h) rfl (fun w hSw => by go_simp <;> with_reducible rfl) hS ?_
  try simp only [Act.put, List.setIfInBounds_toArray, List.set_cons_zero, List.set_cons_succ]
  refine seqRead 27 (v := _) rfl (by kernel_rfl) (by kernel_rfl) (by kernel_rfl) (fun _ _ _ h => h) rfl (fun w hSw => execHead rfl _ rfl x hSw.r2) hS ?_
  try simp only [Act.put, List.setIfInBounds_toArray, List.set_cons_zero, List.set_cons_succ]
  refine seqCall 28 rfl (by kernel_rfl) rfl (fun K hK => ?_)
  go_simp
  refine (sound_any x X0.out _ hS.tab hS.lt).mono ?_
  rintro e w5 ⟨rfl, hw5⟩
  refine hK.out _ _ (Bun.below hw5 hS) (fun hS => ?_)
  clear hK K
  try simp only [Act.put, List.setIfInBounds_toArray, List.set_cons_zero, List.set_cons_succ]
  refine seqRead 29 (v := _) rfl (by kernel_rfl) (by kernel_rfl) (by kernel_rfl) (fun _ _ _ h => h) rfl (fun w hSw => by go_simp <;> with_reducible rfl) hS ?_
  try simp only [Act.put, List.setIfInBounds_toArray, List.set_cons_zero, List.set_cons_succ]
  refine seqRead 30 (v := _) rfl (by kernel_rfl) (by kernel_rfl) (by kernel_rfl) (fun _ _ _ h => h) rfl (fun w hSw => by go_simp <;> with_reducible rfl) hS ?_
  try simp only [Act.put, List.setIfInBounds_toArray, List.set_cons_zero, List.set_cons_succ]
  refine seqRead 31 (v := _) rfl (by kernel_rfl) (by kernel_rfl) (by kernel_rfl) (fun _ _ _ h => h) rfl (fun w hSw => by go_simp <;> with_reducible rfl) hS ?_
  try simp only [Act.put, List.setIfInBounds_toArray, List.set_cons_zero, List.set_cons_succ]
  refine seqDone (by kernel_rfl) ?_
  go_wp2
  go_ret
  exact ⟨by simp, hS.kept⟩
theorem upd_sound (a : Nat → Int) (k : Nat) (v : Int) (hs : sndB a = true) (hf : fitB k v = true) : sndB (upd a k v) = true := by
  simp only [sndB, List.all_eq_true, List.mem_range] at hs ⊢
  intro j hj
  unfold upd
  by_cases e : j = k
  · rw [if_pos e, e]; exact hf
  · rw [if_neg e]; exact hs j hj
theorem upd_nonneg (a : Nat → Int) (k : Nat) (v : Int) (h : ∀ j, 0 ≤ a j) (hv : 0 ≤ v) : ∀ j, 0 ≤ upd a k v j := fun j => by
  unfold upd
  split
  · exact hv
  · exact h j
theorem headSets_any (a : Nat → Int) (ha : ∀ j, 0 ≤ a j) (n v : Int) (hv : (Lit.int .u64 v).wf = true) (w : World) (ht : Tab w) (hz : 0 < w.heap.size) :
    Calls Tryd.prog 5 #[.agg (hc a), .int .i64 n, .int .u64 v] w fun e w' => e = .returned (.bool true) ∧ Below w.heap.size w w' := by
  simp only [Lit.wf, Bool.and_eq_true, decide_eq_true_eq] at hv
  have v0 : 0 ≤ v := hv.1
  by_cases hn : n < 0 ∨ 12 ≤ n
  · exact sets_err1 a zh n v ha w ht hz (fun w _ _ => set_out a n v w hn) (fun w => rset_out a n v w (by omega))
  · obtain ⟨k, rfl⟩ : ∃ k : Nat, n = k := ⟨n.toNat, by omega⟩
    have hk : k < 12 := by omega
    cases hf : fitB k v
    · exact sets_err13 a zh k v ha w ht hz (fun w t z => set_big a k v w hk v0 hf t z) (fun w => rset_big a k v w hk hf)
    · cases hs : sndB a
      · exact sets_unsound a (upd a k v) k v ha hs w ht hz (fun w t z => set_in a k v w hk v0 hf t z) (fun w => rset_in a k v w hk hf)
      · exact sets_sound a (upd a k v) k v ha (upd_nonneg a k v ha v0) hs (upd_sound a k v hs hf) w ht hz (fun w t z => set_in a k v w hk v0 hf t z) (fun w => rset_in a k v w hk hf)
end Go.Proofs.YtkjmameaempecaaDoor
