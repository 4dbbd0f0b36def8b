/-
  The walk of the law CubeOrder.
-/
import Derived.Test.YtamjaohoicedfaaDoorCubeThr
namespace Go.Proofs.YtamjaohoicedfaaDoor
open Go.RowKit

/-- A load of a whole row, in a region walked by hand. -/
theorem execBlk {P : Program} {a : Act} {oi : Oper} {w : World} {ty : TypeId} {x : Operand} (ho : oi.op = .load ty x) (b : Nat) (hx : a.eval x = .pointer (some ⟨b, 0, none⟩)) {cs : Array Value} {t : TypeId} (hb : Blk b cs t w)
    {d : TypeDesc} (hu : P.underlying ty = some d) (hd : d.isRow = true) (hi : (P.info? ty).map (·.size) = some cs.size) : (execOp a.eval oi).run P w = .ok (.value (.agg cs)) w := by
  unfold execOp
  simp only [ho, hx, Instr.loadAt, Instr.sureAddr, Sem.run_bind, Sem.run_pure, Result.andThen_ok, run_loadVar_row w b t ty cs (0, 0) d hb hu (by cases d <;> first | rfl | (simp [TypeDesc.isRow] at hd)) hi]
/-- two cubes lie in two blocks -/
def Pair (w : World) (a b : Nat → Int) (W : World) : Prop := Blk w.heap.size (cc a) 30 W ∧ Blk (w.heap.size + 1) (cc b) 30 W ∧ Env w W
theorem Pair.below {w : World} {a b : Nat → Int} {W W' : World} (hb : Below W.heap.size W W') (h : Pair w a b W) : Pair w a b W' := ⟨h.1.below hb, h.2.1.below hb, h.2.2.below hb⟩
theorem Pair.start {w : World} (ht : Tab w) (hz : 0 < w.heap.size) (a b : Nat → Int) : Pair w a b ((w.alloc (.cells (cc a) 30)).alloc (.cells (cc b) 30)) :=
  ⟨(Blk.new w (cc a) 30).old _, Blk.new2 w _ (cc b) 30, ((Env.start ht hz).alloc _).alloc _⟩
theorem Pair.drew {w : World} {a b : Nat → Int} {W : World} (h : Pair w a b W) : Pair w a b W.drew := ⟨h.1, h.2.1, h.2.2.drew⟩
set_option maxHeartbeats 400000 in
theorem rccmp_any (a b : Nat → Int) (w : World) : Calls Tryd.prog 30 #[.agg (cc a), .agg (cc b)] w fun e w' => e = .returned (.int .i64 (cOrd a b)) ∧ Below w.heap.size w w' := by
  have R0 := Lib.hid ((Blk.new w (cc a) 30).old (.cells (cc b) 30))
  have R1 := Lib.hid (Blk.new2 w (.cells (cc a) 30) (cc b) 30)
  have HC := Lib.hid (show (hOrd (care a) (care b) != 0) = true → cOrd a b = hOrd (care a) (care b) from fun h => by simp only [cOrd, h, if_true])
  have HD := Lib.hid (show (hOrd (care a) (care b) != 0) = false → cOrd a b = hOrd a b from fun h => by simp only [cOrd, h]; rfl)
  generalize cOrd a b = o at *
  go_enter Tryd.func30, Tryd.ntmps30
  go_wp2_with (first
    | (refine wpList_load_mid rfl 25 _ rfl w.heap.size 12 rfl (hl (care a)) _ (careR R0.out) Tryd.underlying25 rfl infoHead ?_)
    | (refine wpList_load_mid rfl 25 _ rfl (w.heap.size + 1) 12 rfl (hl (care b)) _ (careR R1.out) Tryd.underlying25 rfl infoHead ?_))
  refine (rord_any (care a) (care b) _).mono ?_
  rintro e w1 ⟨rfl, hw1⟩
  have R01 := Lib.hid (R0.out.below hw1)
  have R11 := Lib.hid (R1.out.below hw1)
  have HB := Lib.hid ((below2 _ _ _).trans (hw1.mono (by simp; omega)))
  clear hw1 R0 R1
  cases hc : (hOrd (care a) (care b) != 0)
  · have HE := Lib.hid (HD.out hc)
    go_wp2_with (first
      | (refine wpList_load_mid rfl 25 _ rfl w.heap.size 0 rfl (hl a) _ (valR R01.out) Tryd.underlying25 rfl infoHead ?_)
      | (refine wpList_load_mid rfl 25 _ rfl (w.heap.size + 1) 0 rfl (hl b) _ (valR R11.out) Tryd.underlying25 rfl infoHead ?_))
    refine (rord_any a b _).mono ?_
    rintro e w2 ⟨rfl, hw2⟩
    go_wp2
    go_ret
    exact ⟨ret_int HE.out.symm, HB.out.trans (hw2.mono HB.out.size)⟩
  · have HE := Lib.hid (HC.out hc)
    go_wp2
    go_ret
    exact ⟨ret_int HE.out.symm, HB.out⟩
theorem cOrd_neg (a b : Nat → Int) : cOrd b a = -cOrd a b := by
  unfold cOrd
  have e1 := ord_neg (care a) (care b)
  have e2 := ord_neg a b
  by_cases h : hOrd (care a) (care b) = 0
  · have h' : hOrd (care b) (care a) = 0 := by omega
    simp only [h, h', bne_self_eq_false, Bool.false_eq_true, if_false]; omega
  · have h' : hOrd (care b) (care a) ≠ 0 := by omega
    rw [if_pos (by simpa using h'), if_pos (by simpa using h)]; omega
theorem cOrd_zero (a b : Nat → Int) : (cOrd a b == 0) = cEq a b := by
  unfold cOrd cEq
  rw [← ord_zero, ← ord_zero]
  by_cases h : hOrd (care a) (care b) = 0
  · simp [h]
  · rw [if_pos (by simpa using h)]; simp [h]
end Go.Proofs.YtamjaohoicedfaaDoor
