/-
  The walk of the law HeadTwice.
-/
import Derived.Test.YtkjmameaempecaaDoorHeadSet
namespace Go.Proofs.YtkjmameaempecaaDoor
open Go.RowKit

/-- a header lies in a block of its own -/
def Row (b : Nat) (a : Nat → Int) (W : World) : Prop := W.heap[b]? = some (.cells (hc a) 33 (0, 0))
theorem Row.lt {b : Nat} {a : Nat → Int} {W : World} (h : Row b a W) : b < W.heap.size := by
  have := h; unfold Row at this
  exact (Array.getElem?_eq_some_iff.1 this).1
theorem Row.below {b : Nat} {a : Nat → Int} {W W' : World} (h : Row b a W) (hb : Below W.heap.size W W') : Row b a W' := (hb.block b h.lt).trans h
theorem Row.new (W : World) (a : Nat → Int) : Row W.heap.size a (W.alloc (.cells (hc a) 33)) := heap_alloc_new _ _
theorem Row.old {b : Nat} {a : Nat → Int} {W : World} (h : Row b a W) (o : Obj) : Row b a (W.alloc o) := h.below (below1 _ _)
/-- what Set answers: the header, the error -/
def setV (a : Nat → Int) (n v : Int) : Nat → Int := if n < 0 ∨ 12 ≤ n then zh else if fitB n.toNat v then upd a n.toNat v else zh
def setE (n v : Int) : Int := if n < 0 ∨ 12 ≤ n then 1 else if fitB n.toNat v then 0 else 13
theorem set_any (a : Nat → Int) (n v : Int) (w : World) (v0 : 0 ≤ v) (ht : Tab w) (hz : 0 < w.heap.size) :
    Calls Tryd.prog 18 #[.agg (hc a), .int .i64 n, .int .u64 v] w fun e w' => e = .returned (.tuple #[.agg (hc (setV a n v)), .int .i64 (setE n v)]) ∧ Below w.heap.size w w' := by
  unfold setV setE
  by_cases hn : n < 0 ∨ 12 ≤ n
  · rw [if_pos hn, if_pos hn]; exact set_out a n v w hn
  · obtain ⟨k, rfl⟩ : ∃ k : Nat, n = k := ⟨n.toNat, by omega⟩
    rw [if_neg hn, if_neg hn]
    cases hf : fitB k v
    · simp only [Int.toNat_natCast, hf]; exact set_big a k v w (by omega) v0 hf ht hz
    · simp only [Int.toNat_natCast, hf]; exact set_in a k v w (by omega) v0 hf ht hz

/-- A load of a whole row behind a guard that says yes. -/
theorem loadRowG {P : Program} {ops : Array Oper} {rest : List Oper} {o : Oper} {a : Act} {w : World} {Q : Exit → Act → World → Prop} (hw : Region.wanted o (yielded ops a.tmps) = true) (ty : TypeId) (x : Operand) (ho : o.op = .load ty x)
    (g : Nat) (hx : a.eval x = .pointer (some ⟨g, 0, none⟩)) (t : TypeId) (cs : Array Value) (fr : Nat × Nat) {n : Nat} {e : TypeId} (hg : w.heap[g]? = some (.cells cs t fr))
    (hu : P.underlying ty = some (.array n e)) (hi : (P.info? ty).map (·.size) = some cs.size)
    (h : wpList P ops Q rest (a.put o.dst (.agg cs)) w) : wpList P ops Q (o :: rest) a w :=
  wpList_step fun K hK => by rw [if_pos hw]; exact wp_load_row ty x ho g hx t cs fr _ hg hu rfl hi (hK _ _ h)
set_option maxHeartbeats 1000000 in
theorem twice_err (h a b c d : Nat → Int) (n m v u e1 e2 e3 e4 : Int) (w : World) (ht : Tab w) (hz : 0 < w.heap.size) (he : ((e1 != 0) = true) ∨ ((e1 != 0) = false ∧ (e2 != 0) = true))
    (hA : ∀ W, Tab W → 0 < W.heap.size → Calls Tryd.prog 18 #[.agg (hc h), .int .i64 n, .int .u64 v] W fun e w' => e = .returned (.tuple #[.agg (hc a), .int .i64 e1]) ∧ Below W.heap.size W w')
    (hB : ∀ W, Tab W → 0 < W.heap.size → Calls Tryd.prog 18 #[.agg (hc h), .int .i64 m, .int .u64 u] W fun e w' => e = .returned (.tuple #[.agg (hc b), .int .i64 e2]) ∧ Below W.heap.size W w')
    (hC : ∀ W, Tab W → 0 < W.heap.size → Calls Tryd.prog 18 #[.agg (hc a), .int .i64 m, .int .u64 u] W fun e w' => e = .returned (.tuple #[.agg (hc c), .int .i64 e3]) ∧ Below W.heap.size W w')
    (hD : ∀ W, Tab W → 0 < W.heap.size → Calls Tryd.prog 18 #[.agg (hc b), .int .i64 n, .int .u64 v] W fun e w' => e = .returned (.tuple #[.agg (hc d), .int .i64 e4]) ∧ Below W.heap.size W w') :
    Calls Tryd.prog 7 #[.agg (hc h), .int .i64 n, .int .i64 m, .int .u64 v, .int .u64 u] w fun e w' => e = .returned (.bool true) ∧ Below w.heap.size w w' := by
  have E0 := Lib.hid ((show Env w w from ⟨ht, hz, Below.refl _ _⟩).below (below1 w (.cells (hc h) 33)))
  have HA := Lib.hid hA
  have HB := Lib.hid hB
  have HC := Lib.hid hC
  have HD := Lib.hid hD
  have R0 := Lib.hid (Row.new w h)
  have HX := Lib.hid he
  clear ht hA hB hC hD he
  go_enter Tryd.func7, Tryd.ntmps7
  go_wp2_with (refine wpList_load_row rfl 33 _ rfl w.heap.size rfl 33 (hc h) (0, 0) _ R0.out Tryd.underlying33 rfl (by kernel_rfl) ?_)
  refine (HA.out _ E0.out.1 E0.out.2.1).mono ?_
  rintro e w1 ⟨rfl, hw1⟩
  have R01 := Lib.hid ((R0.out.below hw1).old (.cells (hc a) 33))
  have R11 := Lib.hid (Row.new w1 a)
  have E1 := Lib.hid ((E0.out.below hw1).below (below1 w1 (.cells (hc a) 33)))
  clear hw1 R0 E0 HA
  go_wp2_with (first
    | (refine wpList_store_row rfl 33 _ _ rfl w1.heap.size (hc a) rfl rfl 33 _ (heap_alloc_new _ _) (by kernel_rfl) rfl (hc_one _) ?_; rw [World.setRow_alloc_new])
    | (refine wpList_load_row rfl 33 _ rfl w.heap.size rfl 33 (hc h) (0, 0) _ R01.out Tryd.underlying33 rfl (by kernel_rfl) ?_))
  refine (HB.out _ E1.out.1 E1.out.2.1).mono ?_
  rintro e w2 ⟨rfl, hw2⟩
  have R12 := Lib.hid ((R11.out.below hw2).old (.cells (hc b) 33))
  have R22 := Lib.hid (Row.new w2 b)
  have E2 := Lib.hid ((E1.out.below hw2).below (below1 w2 (.cells (hc b) 33)))
  clear hw2 R01 R11 E1 HB
  go_wp2_with (first
    | (refine wpList_store_row rfl 33 _ _ rfl w2.heap.size (hc b) rfl rfl 33 _ (heap_alloc_new _ _) (by kernel_rfl) rfl (hc_one _) ?_; rw [World.setRow_alloc_new])
    | (refine wpList_load_row rfl 33 _ rfl w1.heap.size rfl 33 (hc a) (0, 0) _ R12.out Tryd.underlying33 rfl (by kernel_rfl) ?_))
  refine (HC.out _ E2.out.1 E2.out.2.1).mono ?_
  rintro e w3 ⟨rfl, hw3⟩
  have R23 := Lib.hid ((R22.out.below hw3).old (.cells (hc c) 33))
  have R33 := Lib.hid (Row.new w3 c)
  have E3 := Lib.hid ((E2.out.below hw3).below (below1 w3 (.cells (hc c) 33)))
  clear hw3 R12 R22 E2 HC
  go_wp2_with (first
    | (refine wpList_store_row rfl 33 _ _ rfl w3.heap.size (hc c) rfl rfl 33 _ (heap_alloc_new _ _) (by kernel_rfl) rfl (hc_one _) ?_; rw [World.setRow_alloc_new])
    | (refine wpList_load_row rfl 33 _ rfl w2.heap.size rfl 33 (hc b) (0, 0) _ R23.out Tryd.underlying33 rfl (by kernel_rfl) ?_))
  refine (HD.out _ E3.out.1 E3.out.2.1).mono ?_
  rintro e w4 ⟨rfl, hw4⟩
  have R34 := Lib.hid ((R33.out.below hw4).old (.cells (hc d) 33))
  have R44 := Lib.hid (Row.new w4 d)
  have E4 := Lib.hid ((E3.out.below hw4).below (below1 w4 (.cells (hc d) 33)))
  clear hw4 R23 R33 E3 HD
  rcases HX.out with h1 | ⟨h1, h2⟩
  all_goals
    go_wp2_with (first
      | (refine wpList_store_row rfl 33 _ _ rfl w4.heap.size (hc d) rfl rfl 33 _ (heap_alloc_new _ _) (by kernel_rfl) rfl (hc_one _) ?_; rw [World.setRow_alloc_new])
      | (go_at_call 9; refine (answers_any _ E4.out.1).mono ?_; rintro e w' ⟨rfl, rfl⟩))
    go_ret
    exact ⟨rfl, E4.out.2.2⟩
set_option maxHeartbeats 1000000 in
theorem twice_same (h a b c d : Nat → Int) (k1 k2 : Nat) (v u : Int) (hk2 : k2 < 12) (hcu : c k2 = u) (hne : k1 = k2) (w : World) (ht : Tab w) (hz : 0 < w.heap.size)
    (hA : ∀ W, Tab W → 0 < W.heap.size → Calls Tryd.prog 18 #[.agg (hc h), .int .i64 k1, .int .u64 v] W fun e w' => e = .returned (.tuple #[.agg (hc a), .int .i64 0]) ∧ Below W.heap.size W w')
    (hB : ∀ W, Tab W → 0 < W.heap.size → Calls Tryd.prog 18 #[.agg (hc h), .int .i64 k2, .int .u64 u] W fun e w' => e = .returned (.tuple #[.agg (hc b), .int .i64 0]) ∧ Below W.heap.size W w')
    (hC : ∀ W, Tab W → 0 < W.heap.size → Calls Tryd.prog 18 #[.agg (hc a), .int .i64 k2, .int .u64 u] W fun e w' => e = .returned (.tuple #[.agg (hc c), .int .i64 0]) ∧ Below W.heap.size W w')
    (hD : ∀ W, Tab W → 0 < W.heap.size → Calls Tryd.prog 18 #[.agg (hc b), .int .i64 k1, .int .u64 v] W fun e w' => e = .returned (.tuple #[.agg (hc d), .int .i64 0]) ∧ Below W.heap.size W w') :
    Calls Tryd.prog 7 #[.agg (hc h), .int .i64 k1, .int .i64 k2, .int .u64 v, .int .u64 u] w fun e w' => e = .returned (.bool true) ∧ Below w.heap.size w w' := by
  have E0 := Lib.hid ((show Env w w from ⟨ht, hz, Below.refl _ _⟩).below (below1 w (.cells (hc h) 33)))
  have HA := Lib.hid hA
  have HB := Lib.hid hB
  have HC := Lib.hid hC
  have HD := Lib.hid hD
  have R0 := Lib.hid (Row.new w h)
  clear ht hA hB hC hD
  have HCU := Lib.hid hcu
  clear hcu
  have HNE := Lib.hid hne
  clear hne
  go_enter Tryd.func7, Tryd.ntmps7
  go_wp2_with (refine wpList_load_row rfl 33 _ rfl w.heap.size rfl 33 (hc h) (0, 0) _ R0.out Tryd.underlying33 rfl (by kernel_rfl) ?_)
  refine (HA.out _ E0.out.1 E0.out.2.1).mono ?_
  rintro e w1 ⟨rfl, hw1⟩
  have R01 := Lib.hid ((R0.out.below hw1).old (.cells (hc a) 33))
  have R11 := Lib.hid (Row.new w1 a)
  have E1 := Lib.hid ((E0.out.below hw1).below (below1 w1 (.cells (hc a) 33)))
  clear hw1 R0 E0 HA
  go_wp2_with (first
    | (refine wpList_store_row rfl 33 _ _ rfl w1.heap.size (hc a) rfl rfl 33 _ (heap_alloc_new _ _) (by kernel_rfl) rfl (hc_one _) ?_; rw [World.setRow_alloc_new])
    | (refine wpList_load_row rfl 33 _ rfl w.heap.size rfl 33 (hc h) (0, 0) _ R01.out Tryd.underlying33 rfl (by kernel_rfl) ?_))
  refine (HB.out _ E1.out.1 E1.out.2.1).mono ?_
  rintro e w2 ⟨rfl, hw2⟩
  have R12 := Lib.hid ((R11.out.below hw2).old (.cells (hc b) 33))
  have R22 := Lib.hid (Row.new w2 b)
  have E2 := Lib.hid ((E1.out.below hw2).below (below1 w2 (.cells (hc b) 33)))
  clear hw2 R01 R11 E1 HB
  go_wp2_with (first
    | (refine wpList_store_row rfl 33 _ _ rfl w2.heap.size (hc b) rfl rfl 33 _ (heap_alloc_new _ _) (by kernel_rfl) rfl (hc_one _) ?_; rw [World.setRow_alloc_new])
    | (refine wpList_load_row rfl 33 _ rfl w1.heap.size rfl 33 (hc a) (0, 0) _ R12.out Tryd.underlying33 rfl (by kernel_rfl) ?_))
  refine (HC.out _ E2.out.1 E2.out.2.1).mono ?_
  rintro e w3 ⟨rfl, hw3⟩
  have R23 := Lib.hid ((R22.out.below hw3).old (.cells (hc c) 33))
  have R33 := Lib.hid (Row.new w3 c)
  have E3 := Lib.hid ((E2.out.below hw3).below (below1 w3 (.cells (hc c) 33)))
  clear hw3 R12 R22 E2 HC
  go_wp2_with (first
    | (refine wpList_store_row rfl 33 _ _ rfl w3.heap.size (hc c) rfl rfl 33 _ (heap_alloc_new _ _) (by kernel_rfl) rfl (hc_one _) ?_; rw [World.setRow_alloc_new])
    | (refine wpList_load_row rfl 33 _ rfl w2.heap.size rfl 33 (hc b) (0, 0) _ R23.out Tryd.underlying33 rfl (by kernel_rfl) ?_))
  refine (HD.out _ E3.out.1 E3.out.2.1).mono ?_
  rintro e w4 ⟨rfl, hw4⟩
  have R34 := Lib.hid ((R33.out.below hw4).old (.cells (hc d) 33))
  have R44 := Lib.hid (Row.new w4 d)
  have E4 := Lib.hid ((E3.out.below hw4).below (below1 w4 (.cells (hc d) 33)))
  clear hw4 R23 R33 E3 HD
  have C2 : (w4.alloc (.cells (hc d) 33)).cell? ⟨w3.heap.size, k2, none⟩ = some (.int .u64 u) := (cell_row R34.out hk2).trans (by rw [HCU.out])
  have hnb : ((k1 : Int) == (k2 : Int)) = true := by simp only [beq_iff_eq]; have := HNE.out; omega
  go_wp2_with (refine wpList_store_row rfl 33 _ _ rfl w4.heap.size (hc d) rfl rfl 33 _ (heap_alloc_new _ _) (by kernel_rfl) rfl (hc_one _) ?_; rw [World.setRow_alloc_new])
  refine (answers_any _ E4.out.1).mono ?_
  rintro e w' ⟨rfl, rfl⟩
  go_wp2
  go_ret
  exact ⟨by simp, E4.out.2.2⟩
set_option maxHeartbeats 1000000 in
theorem twice_diff (h a b c d : Nat → Int) (k1 k2 : Nat) (v u : Int) (hk1 : k1 < 12) (hk2 : k2 < 12) (hcu : c k2 = u) (hne : ¬ k1 = k2) (hcd : hEq c d = true) (hcv : c k1 = v) (w : World) (ht : Tab w) (hz : 0 < w.heap.size)
    (hA : ∀ W, Tab W → 0 < W.heap.size → Calls Tryd.prog 18 #[.agg (hc h), .int .i64 k1, .int .u64 v] W fun e w' => e = .returned (.tuple #[.agg (hc a), .int .i64 0]) ∧ Below W.heap.size W w')
    (hB : ∀ W, Tab W → 0 < W.heap.size → Calls Tryd.prog 18 #[.agg (hc h), .int .i64 k2, .int .u64 u] W fun e w' => e = .returned (.tuple #[.agg (hc b), .int .i64 0]) ∧ Below W.heap.size W w')
    (hC : ∀ W, Tab W → 0 < W.heap.size → Calls Tryd.prog 18 #[.agg (hc a), .int .i64 k2, .int .u64 u] W fun e w' => e = .returned (.tuple #[.agg (hc c), .int .i64 0]) ∧ Below W.heap.size W w')
    (hD : ∀ W, Tab W → 0 < W.heap.size → Calls Tryd.prog 18 #[.agg (hc b), .int .i64 k1, .int .u64 v] W fun e w' => e = .returned (.tuple #[.agg (hc d), .int .i64 0]) ∧ Below W.heap.size W w') :
    Calls Tryd.prog 7 #[.agg (hc h), .int .i64 k1, .int .i64 k2, .int .u64 v, .int .u64 u] w fun e w' => e = .returned (.bool true) ∧ Below w.heap.size w w' := by
  have E0 := Lib.hid ((show Env w w from ⟨ht, hz, Below.refl _ _⟩).below (below1 w (.cells (hc h) 33)))
  have HA := Lib.hid hA
  have HB := Lib.hid hB
  have HC := Lib.hid hC
  have HD := Lib.hid hD
  have R0 := Lib.hid (Row.new w h)
  clear ht hA hB hC hD
  have HCU := Lib.hid hcu
  clear hcu
  have HCD := Lib.hid hcd
  have HCV := Lib.hid hcv
  clear hcd hcv
  go_enter Tryd.func7, Tryd.ntmps7
  go_wp2_with (refine wpList_load_row rfl 33 _ rfl w.heap.size rfl 33 (hc h) (0, 0) _ R0.out Tryd.underlying33 rfl (by kernel_rfl) ?_)
  refine (HA.out _ E0.out.1 E0.out.2.1).mono ?_
  rintro e w1 ⟨rfl, hw1⟩
  have R01 := Lib.hid ((R0.out.below hw1).old (.cells (hc a) 33))
  have R11 := Lib.hid (Row.new w1 a)
  have E1 := Lib.hid ((E0.out.below hw1).below (below1 w1 (.cells (hc a) 33)))
  clear hw1 R0 E0 HA
  go_wp2_with (first
    | (refine wpList_store_row rfl 33 _ _ rfl w1.heap.size (hc a) rfl rfl 33 _ (heap_alloc_new _ _) (by kernel_rfl) rfl (hc_one _) ?_; rw [World.setRow_alloc_new])
    | (refine wpList_load_row rfl 33 _ rfl w.heap.size rfl 33 (hc h) (0, 0) _ R01.out Tryd.underlying33 rfl (by kernel_rfl) ?_))
  refine (HB.out _ E1.out.1 E1.out.2.1).mono ?_
  rintro e w2 ⟨rfl, hw2⟩
  have R12 := Lib.hid ((R11.out.below hw2).old (.cells (hc b) 33))
  have R22 := Lib.hid (Row.new w2 b)
  have E2 := Lib.hid ((E1.out.below hw2).below (below1 w2 (.cells (hc b) 33)))
  clear hw2 R01 R11 E1 HB
  go_wp2_with (first
    | (refine wpList_store_row rfl 33 _ _ rfl w2.heap.size (hc b) rfl rfl 33 _ (heap_alloc_new _ _) (by kernel_rfl) rfl (hc_one _) ?_; rw [World.setRow_alloc_new])
    | (refine wpList_load_row rfl 33 _ rfl w1.heap.size rfl 33 (hc a) (0, 0) _ R12.out Tryd.underlying33 rfl (by kernel_rfl) ?_))
  refine (HC.out _ E2.out.1 E2.out.2.1).mono ?_
  rintro e w3 ⟨rfl, hw3⟩
  have R23 := Lib.hid ((R22.out.below hw3).old (.cells (hc c) 33))
  have R33 := Lib.hid (Row.new w3 c)
  have E3 := Lib.hid ((E2.out.below hw3).below (below1 w3 (.cells (hc c) 33)))
  clear hw3 R12 R22 E2 HC
  go_wp2_with (first
    | (refine wpList_store_row rfl 33 _ _ rfl w3.heap.size (hc c) rfl rfl 33 _ (heap_alloc_new _ _) (by kernel_rfl) rfl (hc_one _) ?_; rw [World.setRow_alloc_new])
    | (refine wpList_load_row rfl 33 _ rfl w2.heap.size rfl 33 (hc b) (0, 0) _ R23.out Tryd.underlying33 rfl (by kernel_rfl) ?_))
  refine (HD.out _ E3.out.1 E3.out.2.1).mono ?_
  rintro e w4 ⟨rfl, hw4⟩
  have R34 := Lib.hid ((R33.out.below hw4).old (.cells (hc d) 33))
  have R44 := Lib.hid (Row.new w4 d)
  have E4 := Lib.hid ((E3.out.below hw4).below (below1 w4 (.cells (hc d) 33)))
  clear hw4 R23 R33 E3 HD
  have C2 : (w4.alloc (.cells (hc d) 33)).cell? ⟨w3.heap.size, k2, none⟩ = some (.int .u64 u) := (cell_row R34.out hk2).trans (by rw [HCU.out])
  have C1 : (w4.alloc (.cells (hc d) 33)).cell? ⟨w3.heap.size, k1, none⟩ = some (.int .u64 v) := (cell_row R34.out hk1).trans (by rw [HCV.out])
  have hnb : ((k1 : Int) == (k2 : Int)) = false := by simp only [beq_eq_false_iff_ne, ne_eq]; omega
  have hgd := guardHead
  have heq : ∀ w, (Op.equalIn 10000 33 (.agg (hc c)) (.agg (hc d))).run Tryd.prog w = .ok true w := fun w => (eql_head c d w).trans (by rw [HCD.out])
  go_wp2_with (first
    | (refine wpList_store_row rfl 33 _ _ rfl w4.heap.size (hc d) rfl rfl 33 _ (heap_alloc_new _ _) (by kernel_rfl) rfl (hc_one _) ?_; rw [World.setRow_alloc_new])
    | (refine loadRowG rfl 33 _ rfl w3.heap.size rfl 33 (hc c) (0, 0) R34.out Tryd.underlying33 (by kernel_rfl) ?_)
    | (refine loadRowG rfl 33 _ rfl w4.heap.size rfl 33 (hc d) (0, 0) R44.out Tryd.underlying33 (by kernel_rfl) ?_)
    | (go_at_call 9; refine (answers_any _ E4.out.1).mono ?_; rintro e w' ⟨rfl, rfl⟩))
  go_ret
  exact ⟨by simp, E4.out.2.2⟩
theorem setV_in (a : Nat → Int) (k : Nat) (v : Int) (hk : k < 12) (hf : fitB k v = true) : setV a k v = upd a k v := by
  unfold setV; rw [if_neg (by omega)]; simp [hf]
theorem setE_zero {n v : Int} (h : setE n v = 0) : ∃ k : Nat, n = k ∧ k < 12 ∧ fitB k v = true := by
  unfold setE at h
  by_cases hn : n < 0 ∨ 12 ≤ n
  · rw [if_pos hn] at h; exact absurd h (by decide)
  · rw [if_neg hn] at h
    cases hf : fitB n.toNat v
    · rw [hf] at h; exact absurd h (by decide)
    · exact ⟨n.toNat, by omega, by omega, hf⟩
theorem setE_in (k : Nat) (v : Int) (hk : k < 12) (hf : fitB k v = true) : setE k v = 0 := by
  unfold setE; rw [if_neg (by omega)]; simp [hf]
theorem headTwice_any (h : Nat → Int) (_ : ∀ j, 0 ≤ h j) (n m v : Int) (hv : (Lit.int .u64 v).wf = true) (u : Int) (hu : (Lit.int .u64 u).wf = true) (w : World) (ht : Tab w) (hz : 0 < w.heap.size) :
    Calls Tryd.prog 7 #[.agg (hc h), .int .i64 n, .int .i64 m, .int .u64 v, .int .u64 u] w fun e w' => e = .returned (.bool true) ∧ Below w.heap.size w w' := by
  simp only [Lit.wf, Bool.and_eq_true, decide_eq_true_eq] at hv hu
  have v0 : 0 ≤ v := hv.1
  have u0 : 0 ≤ u := hu.1
  have hA := fun (a : Nat → Int) W t z => set_any a n v W v0 t z
  have hB := fun (a : Nat → Int) W t z => set_any a m u W u0 t z
  by_cases e1 : setE n v = 0
  · by_cases e2 : setE m u = 0
    · obtain ⟨k1, rfl, hk1, hf1⟩ := setE_zero e1
      obtain ⟨k2, rfl, hk2, hf2⟩ := setE_zero e2
      rw [e1] at hA
      rw [e2] at hB
      simp only [setV_in _ k1 v hk1 hf1] at hA
      simp only [setV_in _ k2 u hk2 hf2] at hB
      have hcu : upd (upd h k1 v) k2 u k2 = u := by simp [upd]
      by_cases hne : k1 = k2
      · subst hne
        exact twice_same h _ _ _ _ k1 k1 v u hk2 hcu rfl w ht hz (hA h) (hB h) (hB _) (hA _)
      · refine twice_diff h _ _ _ _ k1 k2 v u hk1 hk2 hcu hne ?_ ?_ w ht hz (hA h) (hB h) (hB _) (hA _)
        · simp only [hEq, List.all_eq_true, beq_iff_eq]
          intro j _
          unfold upd
          by_cases j1 : j = k1
          · subst j1; simp [hne]
          · by_cases j2 : j = k2
            · subst j2; simp [j1]
            · simp [j1, j2]
        · simp [upd, hne]
    · exact twice_err h _ _ _ _ n m v u _ _ _ _ w ht hz (.inr ⟨by simpa using e1, by simpa using e2⟩) (hA h) (hB h) (hB _) (hA _)
  · exact twice_err h _ _ _ _ n m v u _ _ _ _ w ht hz (.inl (by simpa using e1)) (hA h) (hB h) (hB _) (hA _)
end Go.Proofs.YtkjmameaempecaaDoor
