/-
  The walks of slices.Clone of actions, of clone and Copy of package rule.
-/
import Derived.Test.YthalpnmejompdaaDoorRuleVal
import Derived.Test.YthalpnmejompdaaDoorRowAt
namespace Go.Proofs.YthalpnmejompdaaDoor
open Go.RowKit

/-- a store of one cell in the middle of a row -/
theorem storeCell {ops : Array Oper} {rest : List Oper} {o : Oper} {a : Act} {w : World} {Q : Exit → Act → World → Prop} (hgd : o.guard = none) (ty : TypeId) (x y : Operand) (ho : o.op = .store ty x y)
    (b k : Nat) (v : Value) (hx : a.eval x = .pointer (some ⟨b, k, none⟩)) (hy : a.eval y = v) (h1 : v.oneCell' = true) (ht : w.there b k 1) (hi : (Tryd.prog.info? ty).map (·.size) = some 1)
    (h : wpList Tryd.prog ops Q rest (a.put o.dst undef) (w.setCell ⟨b, k, none⟩ v)) : wpList Tryd.prog ops Q (o :: rest) a w :=
  wpList_plain hgd fun _ hK => by
    have hc : v.cells = #[v] := by cases v <;> first | rfl | cases h1
    have hq := run_storeCells_cells (P := Tryd.prog) b k [v] 0 w (fun j hj => by simpa using (ht j (by simpa using hj)).1) (fun j hj => by simpa using (ht j (by simpa using hj)).2) (fun u hu => by simp at hu; subst hu; exact h1)
    have hr : (storeVar ty ⟨b, k, none⟩ v).run Tryd.prog w = .ok () (w.setCell ⟨b, k, none⟩ v) := by
      cases hq' : Tryd.prog.info? ty with
      | none => simp [hq'] at hi
      | some i =>
        have hs : i.size = 1 := by simpa [hq'] using hi
        simp only [Nat.add_zero] at hq
        simp [storeVar, sizeOf, typeInfo, hq', hc, hs]
        exact hq
    unfold Oper.wp execOp
    simp only [ho, hx, hy, Instr.storeAt, Instr.sureAddr, Sem.run_bind, Sem.run_pure, Result.andThen_ok, hr]
    exact hK _ _ h
theorem Blk.there {b k n : Nat} {cs : Array Value} {t : TypeId} {W : World} (h : Blk b cs t W) (hk : k + n ≤ cs.size) : W.there b k n := fun j hj => by
  refine ⟨?_, frozen_of_row _ b _ _ _ h⟩
  rw [cell_of_row W b _ cs _ _ h]
  simp [show k + j < cs.size by omega]
theorem Blk.one {b k : Nat} {cs : Array Value} {t : TypeId} {W : World} (h : Blk b cs t W) (v : Value) : Blk b (cs.setIfInBounds k v) t (W.setCell ⟨b, k, none⟩ v) := heap_setCell_same W b k cs t v h
/-- what a call that makes a list of its own leaves -/
def OwnRet {α : Type} (K : Kd α) (w : World) (l : List α) (e : Ending) (w' : World) : Prop := ∃ v, e = .returned v ∧ KOwns K w.heap.size v l w' ∧ Below w.heap.size w w'
theorem aclone_any (v : Value) (l : List Ac) (hlen : l.length * 32 ≤ 140737488355328) (w : World) (hl : KLies KA v l w) :
    Calls Tryd.prog 61 #[v] w (OwnRet KA w l) := by
  rcases hl with ⟨rfl, rfl⟩ | ⟨ad, cap, rfl, hcap, hr⟩
  · have HO := Lib.hid (KOwns.nil (K := KA) w.heap.size w)
    go_enter Tryd.func61, Tryd.ntmps61
    have hq := Lib.run_eql_slice_nil (P := Tryd.prog) w 27 42 none 0 0 0 0 Tryd.underlying27
    go_wp2
    go_ret
    exact ⟨_, rfl, HO.out, Below.refl _ _⟩
  · have HL := Lib.hid (show KLies KA (.slice (some ad) l.length cap) l (w.alloc (.cells #[] 42)) from (show KLies KA (.slice (some ad) l.length cap) l w from .inr ⟨ad, cap, rfl, hcap, hr⟩).below okA (below1 _ _))
    have hq := Lib.run_eql_slice_nil (P := Tryd.prog) w 27 42 (some ad) l.length cap 0 0 Tryd.underlying27
    clear hr
    go_enter Tryd.func61, Tryd.ntmps61
    go_wp2_with (first
      | (refine kbuildNone KA okA rfl rfl ?_)
      | (refine kappendB KA okA rfl _ _ rfl w.heap.size _ [] l rfl (KOwns.built w _ (Nat.le_refl _)) _ rfl HL.out (by simp) (by simpa using hlen) (fun v' w' ho hg => ?_)))
    have hb := kbelowOwn (below1 w (.cells #[] 42)) (KOwns.built (K := KA) w w.heap.size (Nat.le_refl _)) (Nat.le_refl _) hg
    go_ret
    exact ⟨_, rfl, ho, hb⟩
/-- a rule that has actions of its own, from a block on -/
def OwnA (base : Nat) (r : Rm) (W : World) : Prop := KOwns KA base (.slice r.q r.n r.c) r.u.acts W
theorem OwnA.inA {base : Nat} {r : Rm} {W : World} (h : OwnA base r W) : InA r W := KOwns.lies h okA
theorem OwnA.below {base : Nat} {r : Rm} {W W' : World} (h : OwnA base r W) (hb : Below W.heap.size W W') : OwnA base r W' := KOwns.below h hb
theorem OwnA.mono {base base' : Nat} {r : Rm} {W : World} (h : OwnA base r W) (hb : base' ≤ base) : OwnA base' r W := KOwns.mono h hb
theorem rca_acts (r : Rm) (q : Option Addr) (n c : Nat) : (rca r).setIfInBounds 25 (.slice q n c) = rca ⟨r.u, q, n, c⟩ := by
  apply Array.ext'
  simp only [rca, rcl, Array.toList_setIfInBounds]
  rw [List.set_append_right _ _ (by simp [cl])]
  simp [cl, rtl]
theorem rca_size (r : Rm) : (rca r).size = 32 := by simp [rca, rcl, rtl, cl]
theorem infoActs : (Tryd.prog.info? 27).map (·.size) = some 1 := by kernel_rfl
/-- what clone gives -/
def CloneRet (w : World) (r : Rm) (e : Ending) (w' : World) : Prop := ∃ r', e = .returned (.agg (rca r')) ∧ r'.u = r.u ∧ OwnA w.heap.size r' w' ∧ Below w.heap.size w w'
set_option maxHeartbeats 1000000 in
theorem rclone_any (r : Rm) (hlen : r.u.acts.length * 32 ≤ 140737488355328) (w : World) (ha : InA r w) : Calls Tryd.prog 42 #[.agg (rca r)] w (CloneRet w r) := by
  have R0 := Lib.hid ((Blk.new w (rca r) 29).old (.cells #[Value.int IntKind.u64 0, Value.int IntKind.u64 0, Value.int IntKind.u64 0, Value.int IntKind.u64 0, Value.int IntKind.u64 0, Value.int IntKind.u64 0, Value.int IntKind.u64 0, Value.int IntKind.u64 0, Value.int IntKind.u64 0, Value.int IntKind.u64 0, Value.int IntKind.u64 0, Value.int IntKind.u64 0, Value.int IntKind.u64 0, Value.int IntKind.u64 0, Value.int IntKind.u64 0, Value.int IntKind.u64 0, Value.int IntKind.u64 0, Value.int IntKind.u64 0, Value.int IntKind.u64 0, Value.int IntKind.u64 0, Value.int IntKind.u64 0, Value.int IntKind.u64 0, Value.int IntKind.u64 0, Value.int IntKind.u64 0, Value.int IntKind.i64 0, Value.slice none 0 0, Value.int IntKind.i64 0, Value.int IntKind.i64 0, Value.int IntKind.i64 0, Value.int IntKind.i64 0, Value.int IntKind.i64 0, Value.int IntKind.i64 0] 29))
  have R1 := Lib.hid (Blk.new2 w (.cells (rca r) 29) #[Value.int IntKind.u64 0, Value.int IntKind.u64 0, Value.int IntKind.u64 0, Value.int IntKind.u64 0, Value.int IntKind.u64 0, Value.int IntKind.u64 0, Value.int IntKind.u64 0, Value.int IntKind.u64 0, Value.int IntKind.u64 0, Value.int IntKind.u64 0, Value.int IntKind.u64 0, Value.int IntKind.u64 0, Value.int IntKind.u64 0, Value.int IntKind.u64 0, Value.int IntKind.u64 0, Value.int IntKind.u64 0, Value.int IntKind.u64 0, Value.int IntKind.u64 0, Value.int IntKind.u64 0, Value.int IntKind.u64 0, Value.int IntKind.u64 0, Value.int IntKind.u64 0, Value.int IntKind.u64 0, Value.int IntKind.u64 0, Value.int IntKind.i64 0, Value.slice none 0 0, Value.int IntKind.i64 0, Value.int IntKind.i64 0, Value.int IntKind.i64 0, Value.int IntKind.i64 0, Value.int IntKind.i64 0, Value.int IntKind.i64 0] 29)
  have HB := Lib.hid ((below1 w (.cells (rca r) 29)).trans ((below1 (w.alloc (.cells (rca r) 29)) (.cells #[Value.int IntKind.u64 0, Value.int IntKind.u64 0, Value.int IntKind.u64 0, Value.int IntKind.u64 0, Value.int IntKind.u64 0, Value.int IntKind.u64 0, Value.int IntKind.u64 0, Value.int IntKind.u64 0, Value.int IntKind.u64 0, Value.int IntKind.u64 0, Value.int IntKind.u64 0, Value.int IntKind.u64 0, Value.int IntKind.u64 0, Value.int IntKind.u64 0, Value.int IntKind.u64 0, Value.int IntKind.u64 0, Value.int IntKind.u64 0, Value.int IntKind.u64 0, Value.int IntKind.u64 0, Value.int IntKind.u64 0, Value.int IntKind.u64 0, Value.int IntKind.u64 0, Value.int IntKind.u64 0, Value.int IntKind.u64 0, Value.int IntKind.i64 0, Value.slice none 0 0, Value.int IntKind.i64 0, Value.int IntKind.i64 0, Value.int IntKind.i64 0, Value.int IntKind.i64 0, Value.int IntKind.i64 0, Value.int IntKind.i64 0] 29)).mono (below1 w (.cells (rca r) 29)).size))
  have HS := Lib.hid (Nat.succ_le_of_lt R1.out.lt)
  go_enter Tryd.func42, Tryd.ntmps42
  go_upto_region 1 with fail
  generalize (w.alloc (.cells (rca r) 29)).alloc (.cells #[Value.int IntKind.u64 0, Value.int IntKind.u64 0, Value.int IntKind.u64 0, Value.int IntKind.u64 0, Value.int IntKind.u64 0, Value.int IntKind.u64 0, Value.int IntKind.u64 0, Value.int IntKind.u64 0, Value.int IntKind.u64 0, Value.int IntKind.u64 0, Value.int IntKind.u64 0, Value.int IntKind.u64 0, Value.int IntKind.u64 0, Value.int IntKind.u64 0, Value.int IntKind.u64 0, Value.int IntKind.u64 0, Value.int IntKind.u64 0, Value.int IntKind.u64 0, Value.int IntKind.u64 0, Value.int IntKind.u64 0, Value.int IntKind.u64 0, Value.int IntKind.u64 0, Value.int IntKind.u64 0, Value.int IntKind.u64 0, Value.int IntKind.i64 0, Value.slice none 0 0, Value.int IntKind.i64 0, Value.int IntKind.i64 0, Value.int IntKind.i64 0, Value.int IntKind.i64 0, Value.int IntKind.i64 0, Value.int IntKind.i64 0] 29) = W at *
  have HC := Lib.hid (aclone_any (.slice r.q r.n r.c) r.u.acts hlen W (InA.below ha HB.out))
  clear ha
  have k25 := R0.out.cellsR.2.2.1
  go_wp2_with (go_at_call 61; refine HC.out.mono ?_; rintro e w1 ⟨v, rfl, ho, hw1⟩; refine Hid.out ?_)
  obtain ⟨q, c, rfl⟩ := ho.form
  have R01 := Lib.hid (R0.out.below hw1)
  have R11 := Lib.hid (R1.out.below hw1)
  have HO := Lib.hid ho
  have HB1 := Lib.hid (HB.out.trans (hw1.mono HB.out.size))
  have HS1 := Lib.hid HS.out
  clear ho hw1 R0 R1 HB HC k25
  refine Lib.hid ?_
  go_wp2_with (refine storeCell rfl 27 _ _ rfl w.heap.size 25 (.slice q r.u.acts.length c) rfl rfl rfl (R01.out.there (by rw [rca_size]; decide)) infoActs ?_; refine Hid.out ?_)
  have R02 := R01.out.one (k := 25) (.slice q r.u.acts.length c)
  rw [rca_acts] at R02
  have R12 := R11.out.cother (g := w.heap.size) (k := 25) (by omega) (.slice q r.u.acts.length c)
  have R2 := Lib.hid R02
  have R3 := Lib.hid R12
  have HO2 := Lib.hid (show OwnA W.heap.size ⟨r.u, q, r.u.acts.length, c⟩ (w1.setCell ⟨w.heap.size, 25, none⟩ (.slice q r.u.acts.length c)) from KOwns.other HO.out fun g hg _ => heap_setCell_other _ _ _ _ (by have := HS1.out; show g ≠ w.heap.size; omega))
  have HB2 := Lib.hid (HB1.out.setCell (Nat.le_refl _) (.slice q r.u.acts.length c) (p := ⟨w.heap.size, 25, none⟩))
  clear R02 R12 R01 R11 HO HB1
  generalize w1.setCell ⟨w.heap.size, 25, none⟩ (.slice q r.u.acts.length c) = W2 at *
  refine Lib.hid ?_
  go_wp2_with (first
    | (refine wpList_load_row rfl 29 _ rfl w.heap.size rfl 29 (rca ⟨r.u, q, r.u.acts.length, c⟩) (0, 0) _ R2.out Tryd.underlying29 rfl infoR ?_)
    | (refine wpList_store_row rfl 29 _ _ rfl (w.heap.size + 1) (rca ⟨r.u, q, r.u.acts.length, c⟩) rfl rfl 29 _ R3.out (by kernel_rfl) rfl (rca_one _) ?_))
  have HB3 := Lib.hid (below_setRow HB2.out (show w.heap.size ≤ w.heap.size + 1 by omega) (rca ⟨r.u, q, r.u.acts.length, c⟩))
  have HO3 := Lib.hid (show OwnA w.heap.size ⟨r.u, q, r.u.acts.length, c⟩ (W2.setRow (w.heap.size + 1) (rca ⟨r.u, q, r.u.acts.length, c⟩)) from KOwns.mono (KOwns.other HO2.out fun g hg _ => setRow_other _ _ _ _ (by have := HS1.out; omega)) (by have := HS1.out; omega))
  have R4 := Lib.hid (R3.out.rset (rca ⟨r.u, q, r.u.acts.length, c⟩))
  clear HO2 HB2 R2 R3
  refine bodyPost_ret (v := .agg (rca ⟨r.u, q, r.u.acts.length, c⟩)) ?_ rfl ⟨_, rfl, rfl, HO3.out, HB3.out⟩
  exact res_one Tryd.results42 (cs := rca ⟨r.u, q, r.u.acts.length, c⟩) rfl R4.out Tryd.underlying29 rfl (by kernel_rfl)
end Go.Proofs.YthalpnmejompdaaDoor
