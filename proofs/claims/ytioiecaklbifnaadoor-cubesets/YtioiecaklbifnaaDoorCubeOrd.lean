/-
  The walk of the law CubeOrder.
-/
import Derived.Test.YtioiecaklbifnaaDoorCubeThr
namespace Go.Proofs.YtioiecaklbifnaaDoor
open Go.RowKit

/-- A load of a whole row, in a region walked by hand. -/
theorem execBlk {P : Program} {a : Act} {oi : Oper} {w : World} {ty : TypeId} {x : Operand} (ho : oi.op = .load ty x) (b : Nat) (hx : a.eval x = .pointer (some ⟨b, 0, none⟩)) {cs : Array Value} {t : TypeId} (hb : Blk b cs t w)
    {d : TypeDesc} (hu : P.underlying ty = some d) (hd : d.isRow = true) (hi : (P.info? ty).map (·.size) = some cs.size) : (execOp a.eval oi).run P w = .ok (.value (.agg cs)) w := by
  unfold execOp
  simp only [ho, hx, Instr.loadAt, Instr.sureAddr, Sem.run_bind, Sem.run_pure, Result.andThen_ok, run_loadVar_row w b t ty cs (0, 0) d hb hu (by cases d <;> first | rfl | (simp [TypeDesc.isRow] at hd)) hi]
/-- two cubes lie in two blocks -/
def Pair (w : World) (a b : Nat → Int) (W : World) : Prop := Blk w.heap.size (cc a) 26 W ∧ Blk (w.heap.size + 1) (cc b) 26 W ∧ Env w W
theorem Pair.below {w : World} {a b : Nat → Int} {W W' : World} (hb : Below W.heap.size W W') (h : Pair w a b W) : Pair w a b W' := ⟨h.1.below hb, h.2.1.below hb, h.2.2.below hb⟩
theorem Pair.start {w : World} (ht : Tab w) (hz : 0 < w.heap.size) (a b : Nat → Int) : Pair w a b ((w.alloc (.cells (cc a) 26)).alloc (.cells (cc b) 26)) :=
  ⟨(Blk.new w (cc a) 26).old _, Blk.new2 w _ (cc b) 26, ((Env.start ht hz).alloc _).alloc _⟩
theorem Pair.drew {w : World} {a b : Nat → Int} {W : World} (h : Pair w a b W) : Pair w a b W.drew := ⟨h.1, h.2.1, h.2.2.drew⟩
set_option maxHeartbeats 400000 in
theorem rccmp_any (a b : Nat → Int) (w : World) : Calls Tryd.prog 30 #[.agg (cc a), .agg (cc b)] w fun e w' => e = .returned (.int .i64 (cOrd a b)) ∧ Below w.heap.size w w' := by
  have R0 := Lib.hid ((Blk.new w (cc a) 26).old (.cells (cc b) 26))
  have R1 := Lib.hid (Blk.new2 w (.cells (cc a) 26) (cc b) 26)
  have HC := Lib.hid (show (hOrd (care a) (care b) != 0) = true → cOrd a b = hOrd (care a) (care b) from fun h => by simp only [cOrd, h, if_true])
  have HD := Lib.hid (show (hOrd (care a) (care b) != 0) = false → cOrd a b = hOrd a b from fun h => by simp only [cOrd, h]; rfl)
  generalize cOrd a b = o at *
  go_enter Tryd.func30, Tryd.ntmps30
  go_wp2_with (first
    | (refine wpList_load_mid rfl 24 _ rfl w.heap.size 12 rfl (hl (care a)) _ (careR R0.out) Tryd.underlying24 rfl infoHead ?_)
    | (refine wpList_load_mid rfl 24 _ rfl (w.heap.size + 1) 12 rfl (hl (care b)) _ (careR R1.out) Tryd.underlying24 rfl infoHead ?_))
  refine (rord_any (care a) (care b) _).mono ?_
  rintro e w1 ⟨rfl, hw1⟩
  have R01 := Lib.hid (R0.out.below hw1)
  have R11 := Lib.hid (R1.out.below hw1)
  have HB := Lib.hid ((below2 _ _ _).trans (hw1.mono (by simp; omega)))
  clear hw1 R0 R1
  cases hc : (hOrd (care a) (care b) != 0)
  · have HE := Lib.hid (HD.out hc)
    go_wp2_with (first
      | (refine wpList_load_mid rfl 24 _ rfl w.heap.size 0 rfl (hl a) _ (valR R01.out) Tryd.underlying24 rfl infoHead ?_)
      | (refine wpList_load_mid rfl 24 _ rfl (w.heap.size + 1) 0 rfl (hl b) _ (valR R11.out) Tryd.underlying24 rfl infoHead ?_))
    refine (rord_any a b _).mono ?_
    rintro e w2 ⟨rfl, hw2⟩
    go_wp2
    go_ret
    exact ⟨ret_int HE.out.symm, HB.out.trans (hw2.mono HB.out.size)⟩
  · have HE := Lib.hid (HC.out hc)
    go_wp2
    go_ret
    exact ⟨ret_int HE.out.symm, HB.out⟩
theorem cOrd_neg (a b : Nat → Int) : cOrd b a = -cOrd a b := by
  unfold cOrd
  have e1 := ord_neg (care a) (care b)
  have e2 := ord_neg a b
  by_cases h : hOrd (care a) (care b) = 0
  · have h' : hOrd (care b) (care a) = 0 := by omega
    simp only [h, h', bne_self_eq_false, Bool.false_eq_true, if_false]; omega
  · have h' : hOrd (care b) (care a) ≠ 0 := by omega
    rw [if_pos (by simpa using h'), if_pos (by simpa using h)]; omega
theorem cOrd_zero (a b : Nat → Int) : (cOrd a b == 0) = cEq a b := by
  unfold cOrd cEq
  rw [← ord_zero, ← ord_zero]
  by_cases h : hOrd (care a) (care b) = 0
  · simp [h]
  · rw [if_pos (by simpa using h)]; simp [h]
set_option maxHeartbeats 2000000 in
theorem order_of (a b m : Nat → Int) (ok yes : Bool) (x y : Int) (hx : ∀ W, Calls Tryd.prog 29 #[.agg (cc a), .agg (cc b)] W fun e w' => e = .returned (.int .i64 x) ∧ Below W.heap.size W w')
    (hy : ∀ W, Calls Tryd.prog 29 #[.agg (cc b), .agg (cc a)] W fun e w' => e = .returned (.int .i64 y) ∧ Below W.heap.size W w')
    (hn : ∀ W, Calls Tryd.prog 30 #[.agg (cc a), .agg (cc b)] W fun e w' => e = .returned (.int .i64 x) ∧ Below W.heap.size W w')
    (hA : Meets a b m ok) (hB : Meets b a m yes) (h1 : (decide (x < 0) == decide (0 < y)) = true) (h2 : ((x == 0) == cEq a b) = true) (w : World) (ht : Tab w) (hz : 0 < w.heap.size) :
    Calls Tryd.prog 6 #[.agg (cc a), .agg (cc b)] w fun e w' => e = .returned (.bool true) ∧ Below w.heap.size w w' := by
  have S0 := Lib.hid (Pair.start ht hz a b)
  have HX := Lib.hid hx
  have HY := Lib.hid hy
  have HN := Lib.hid hn
  clear hx hy hn ht
  go_enter Tryd.func6, Tryd.ntmps6
  go_wp2
  refine wp_region_held_drew (S := Pair w a b) (by kernel_rfl) S0.out.drew (fun hS => ?_)
  clear S0
  refine seqRead 0 (v := _) rfl (by kernel_rfl) (by kernel_rfl) (by kernel_rfl) (fun _ _ _ h => h) rfl (fun w hSw => execBlk rfl _ rfl hSw.1 Tryd.underlying26 rfl (by kernel_rfl)) hS ?_
  try simp only [Act.put, List.setIfInBounds_toArray, List.set_cons_zero, List.set_cons_succ]
  refine seqRead 1 (v := _) rfl (by kernel_rfl) (by kernel_rfl) (by kernel_rfl) (fun _ _ _ h => h) rfl (fun w hSw => execBlk rfl _ rfl hSw.2.1 Tryd.underlying26 rfl (by kernel_rfl)) hS ?_
  try simp only [Act.put, List.setIfInBounds_toArray, List.set_cons_zero, List.set_cons_succ]
  refine seqRead 3 (v := _) rfl (by kernel_rfl) (by kernel_rfl) (by kernel_rfl) (fun _ _ _ h => h) rfl (fun w hSw => execBlk rfl _ rfl hSw.2.1 Tryd.underlying26 rfl (by kernel_rfl)) hS ?_
  try simp only [Act.put, List.setIfInBounds_toArray, List.set_cons_zero, List.set_cons_succ]
  refine seqRead 4 (v := _) rfl (by kernel_rfl) (by kernel_rfl) (by kernel_rfl) (fun _ _ _ h => h) rfl (fun w hSw => execBlk rfl _ rfl hSw.1 Tryd.underlying26 rfl (by kernel_rfl)) hS ?_
  try simp only [Act.put, List.setIfInBounds_toArray, List.set_cons_zero, List.set_cons_succ]
  refine seqCall 2 rfl (by kernel_rfl) rfl (fun K hK => ?_)
  go_simp
  refine (HX.out _).mono ?_
  rintro e w1 ⟨rfl, hw1⟩
  refine hK.out _ _ (Pair.below hw1 hS) (fun hS => ?_)
  clear hK K
  try simp only [Act.put, List.setIfInBounds_toArray, List.set_cons_zero, List.set_cons_succ]
  refine seqCall 5 rfl (by kernel_rfl) rfl (fun K hK => ?_)
  go_simp
  refine (HY.out _).mono ?_
  rintro e w2 ⟨rfl, hw2⟩
  refine hK.out _ _ (Pair.below hw2 hS) (fun hS => ?_)
  clear hK K
  try simp only [Act.put, List.setIfInBounds_toArray, List.set_cons_zero, List.set_cons_succ]
  refine seqRead 6 (v := _) rfl (by kernel_rfl) (by kernel_rfl) (by kernel_rfl) (fun _ _ _ h => h) rfl (fun w hSw => by go_simp <;> with_reducible rfl) hS ?_
  try simp only [Act.put, List.setIfInBounds_toArray, List.set_cons_zero, List.set_cons_succ]
  refine seqRead 7 (v := _) rfl (by kernel_rfl) (by kernel_rfl) (by kernel_rfl) (fun _ _ _ h => h) rfl (fun w hSw => by go_simp <;> with_reducible rfl) hS ?_
  try simp only [Act.put, List.setIfInBounds_toArray, List.set_cons_zero, List.set_cons_succ]
  refine seqDone (by kernel_rfl) ?_
  have HS := Lib.hid hS
  clear hS HX HY
  go_wp2_with (first
    | (refine wpList_load_row rfl 26 _ rfl w.heap.size rfl 26 (cc a) (0, 0) _ HS.out.1 Tryd.underlying26 rfl (by kernel_rfl) ?_)
    | (refine wpList_load_row rfl 26 _ rfl (w.heap.size + 1) rfl 26 (cc b) (0, 0) _ HS.out.2.1 Tryd.underlying26 rfl (by kernel_rfl) ?_))
  refine (HN.out _).mono ?_
  rintro e w3 ⟨rfl, hw3⟩
  have HS3 := Lib.hid (Pair.below hw3 HS.out)
  clear hw3 HS HN
  go_wp2_with (first
    | (refine wpList_load_row rfl 26 _ rfl w.heap.size rfl 26 (cc a) (0, 0) _ HS3.out.1 Tryd.underlying26 rfl (by kernel_rfl) ?_)
    | (refine wpList_load_row rfl 26 _ rfl (w.heap.size + 1) rfl 26 (cc b) (0, 0) _ HS3.out.2.1 Tryd.underlying26 rfl (by kernel_rfl) ?_))
  refine (hA _ HS3.out.2.2.tab HS3.out.2.2.lt).mono ?_
  rintro e w4 ⟨rfl, hw4⟩
  have HS4 := Lib.hid (Pair.below (below1 w4 (.cells (cc m) 26)) (Pair.below hw4 HS3.out))
  have M4 := Lib.hid (Blk.new w4 (cc m) 26)
  clear hw4 HS3
  go_wp2_with (first
    | (refine wpList_store_row rfl 26 _ _ rfl w4.heap.size (cc m) rfl rfl 26 _ (heap_alloc_new _ _) (by kernel_rfl) rfl (cc_one _) ?_; rw [World.setRow_alloc_new])
    | (refine wpList_load_row rfl 26 _ rfl w.heap.size rfl 26 (cc a) (0, 0) _ HS4.out.1 Tryd.underlying26 rfl (by kernel_rfl) ?_)
    | (refine wpList_load_row rfl 26 _ rfl (w.heap.size + 1) rfl 26 (cc b) (0, 0) _ HS4.out.2.1 Tryd.underlying26 rfl (by kernel_rfl) ?_))
  refine (hB _ HS4.out.2.2.tab HS4.out.2.2.lt).mono ?_
  rintro e w5 ⟨rfl, hw5⟩
  have HS5 := Lib.hid (Pair.below (below1 w5 (.cells (cc m) 26)) (Pair.below hw5 HS4.out))
  have M5 := Lib.hid ((M4.out.below hw5).old (.cells (cc m) 26))
  have U5 := Lib.hid (Blk.new w5 (cc m) 26)
  clear hw5 HS4 M4
  go_wp2_with (refine wpList_store_row rfl 26 _ _ rfl w5.heap.size (cc m) rfl rfl 26 _ (heap_alloc_new _ _) (by kernel_rfl) rfl (cc_one _) ?_; rw [World.setRow_alloc_new])
  refine (canswers _ HS5.out.2.2.tab HS5.out.2.2.lt).mono ?_
  rintro e w6 ⟨rfl, hw6⟩
  have HS6 := Lib.hid (Pair.below hw6 HS5.out)
  have M6 := Lib.hid (M5.out.below hw6)
  have U6 := Lib.hid (U5.out.below hw6)
  clear hw6 HS5 M5 U5
  have hgd := guardCube
  have heq : ∀ w, (Op.equalIn 10000 26 (.agg (cc a)) (.agg (cc b))).run Tryd.prog w = .ok (cEq a b) w := fun w => eql_cube a b w
  have hem : ∀ w, (Op.equalIn 10000 26 (.agg (cc m)) (.agg (cc m))).run Tryd.prog w = .ok true w := fun w => (eql_cube m m w).trans (by rw [cEq_refl])
  go_wp2_with (first
    | (refine loadRowG rfl 26 _ rfl w.heap.size rfl 26 (cc a) (0, 0) HS6.out.1 Tryd.underlying26 rfl (by kernel_rfl) ?_)
    | (refine loadRowG rfl 26 _ rfl (w.heap.size + 1) rfl 26 (cc b) (0, 0) HS6.out.2.1 Tryd.underlying26 rfl (by kernel_rfl) ?_)
    | (refine loadRowG rfl 26 _ rfl w4.heap.size rfl 26 (cc m) (0, 0) M6.out Tryd.underlying26 rfl (by kernel_rfl) ?_)
    | (refine loadRowG rfl 26 _ rfl w5.heap.size rfl 26 (cc m) (0, 0) U6.out Tryd.underlying26 rfl (by kernel_rfl) ?_))
  go_ret
  exact ⟨by simp, HS6.out.2.2.kept⟩
theorem cubeOrder_any (a : Nat → Int) (ha : Wf a) (b : Nat → Int) (hb : Wf b) (w : World) (ht : Tab w) (hz : 0 < w.heap.size) :
    Calls Tryd.prog 6 #[.agg (cc a), .agg (cc b)] w fun e w' => e = .returned (.bool true) ∧ Below w.heap.size w w' := by
  have hB := meets_any hb ha
  rw [metV_comm hb ha] at hB
  refine order_of a b _ _ _ _ _ (fun W => ccmp_any a b W) (fun W => ccmp_any b a W) (fun W => rccmp_any a b W) (meets_any ha hb) hB ?_ ?_ w ht hz
  · rw [cOrd_neg a b, beq_iff_eq]
    apply decide_eq_decide.2
    omega
  · rw [cOrd_zero]; simp
end Go.Proofs.YtioiecaklbifnaaDoor
