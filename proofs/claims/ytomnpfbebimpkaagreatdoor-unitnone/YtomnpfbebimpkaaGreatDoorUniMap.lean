/-
  Keys of rules in a map: a store, how many there are.
-/
import Derived.Test.YtomnpfbebimpkaaGreatDoorUniMath
import Derived.Laws.StructEq
import Derived.Maps.OwnSet
import Derived.ChangeMaps5
namespace Go.Proofs.YtomnpfbebimpkaaGreatDoor
set_option maxRecDepth 20000
open Go.RowKit

/-- a key's cells -/
def kyl (u : Ru) : List Value := cl u.m ++ [.int .i64 u.p]
def kya (u : Ru) : Array Value := (kyl u).toArray
abbrev kyV (u : Ru) : Value := .agg (kya u)
theorem keyFields : ∃ f g : Field, (Tryz.prog.fieldsOf 170).toList = [f, g] ∧ f.name ≠ "_" ∧ f.type = 37 ∧ f.offset = 0 ∧ g.name ≠ "_" ∧ g.type = 3 ∧ g.offset = 24 := ⟨_, _, rfl, by decide, rfl, rfl, by decide, rfl, rfl⟩
theorem partK0 (a : Ru) (w : World) : (part 37 (kya a) 0).run Tryz.prog w = .ok (.agg (cc a.m)) w := by kernel_rfl
theorem partK1 (a : Ru) (w : World) : (part 3 (kya a) 24).run Tryz.prog w = .ok (.int .i64 a.p) w := by kernel_rfl
theorem eql_cubeD (d : Nat) (a b : Nat → Int) (w : World) : (Op.equalIn (d + 3) 37 (.agg (cc a)) (.agg (cc b))).run Tryz.prog w = .ok (cEq a b) w := by
  obtain ⟨f, g, hf, f1, f2, f3, g1, g2, g3⟩ := cubeFields
  rw [run_equalIn_struct w (d + 2) 37 (cc a) (cc b) (by kernel_rfl) (by kernel_rfl), hf]
  simp only [Op.eqFields, f1, f2, f3, g1, g2, g3, ne_eq, not_false_eq_true, if_true, Sem.run_bind, partVal, Result.andThen_ok, eqlHl d]
  unfold cEq
  cases h : hEq a b
  · simp
  · cases h' : hEq (care a) (care b) <;> simp [h', partCare, eqlHl d]
theorem eql_key (a b : Ru) (w : World) : (Op.equalIn 10000 170 (kyV a) (kyV b)).run Tryz.prog w = .ok (keyB b a) w := by
  rw [keyB_symm]
  obtain ⟨f, g, hf, f1, f2, f3, g1, g2, g3⟩ := keyFields
  rw [run_equalIn_struct w 9999 170 (kya a) (kya b) (by kernel_rfl) (by kernel_rfl), hf]
  have hI : ∀ x y : Int, (Op.equalIn 9999 3 (.int .i64 x) (.int .i64 y)).run Tryz.prog w = .ok (x == y) w := fun x y => run_equalIn_int w 9998 3 .i64 .i64 x y Tryz.underlying3
  unfold keyB
  simp only [Op.eqFields, f1, f2, f3, g1, g2, g3, ne_eq, not_false_eq_true, if_true, Sem.run_bind, partK0, Result.andThen_ok, eql_cubeD 9996]
  cases e1 : cEq a.m b.m
  · simp
  · simp only [Bool.not_true, Bool.false_eq_true, if_false, Sem.run_bind, partK1, Result.andThen_ok, hI]
    cases e2 : a.p == b.p <;> simp
theorem checkKy (em : Bool) (a : Ru) (w : World) : (Instr.checkKey em 10000 170 (kyV a)).run Tryz.prog w = .ok () w := by kernel_rfl
theorem sameKy (a : Ru) : Instr.sameBits 10000 (kyV a) (kyV a) = true := by
  show Instr.sameBits (9998 + 1 + 1) (kyV a) (kyV a) = true
  simp [Instr.sameBits, kya, kyl, cl, List.range, List.range.loop]
theorem staysKy (a : Ru) (w : World) : (Instr.keyThatStays (kyV a) (kyV a)).run Tryz.prog w = .ok (kyV a) w := by
  unfold Instr.keyThatStays
  rw [sameKy]
  rfl
theorem underKy : ∃ fs, Tryz.prog.underlying 170 = some (.struct fs) := ⟨_, Tryz.underlying170⟩
/-- the keys of a map's block -/
def KyEnts (es : List MapEntry) (D : List Ru) : Prop := es.map (·.key) = D.map kyV
theorem KyEnts.cons {x : MapEntry} {es : List MapEntry} {D : List Ru} (h : KyEnts (x :: es) D) : ∃ q r, D = q :: r ∧ x.key = kyV q ∧ KyEnts es r := by
  cases D with
  | nil => cases h
  | cons q r =>
    unfold KyEnts at h
    simp only [List.map_cons, List.cons.injEq] at h
    exact ⟨q, r, rfl, h.1, h.2⟩
theorem kyV_of {a b : Ru} (h : keyB a b = true) : kyV a = kyV b := by
  obtain ⟨h1, h2⟩ := keyB_p h
  have h3 : cl a.m = cl b.m := by
    have := cEq_cc h2
    unfold cc at this
    simpa using congrArg Array.toList this
  unfold kyV kya kyl
  rw [h3, h1]
theorem askKy (k : Ru) (w : World) : ∀ (es : List MapEntry) (D : List Ru) (i : Nat), KyEnts es D →
    ((Instr.findAsking 170 (kyV k) es i).run Tryz.prog w = .ok none w ∧ hasK D k = false) ∨
    ∃ j e v, (Instr.findAsking 170 (kyV k) es i).run Tryz.prog w = .ok (some (i + j, v)) w ∧ es[j]? = some e ∧ e.key = kyV k ∧ hasK D k = true
  | [], D, i, h => by
    cases D with
    | nil => exact .inl ⟨rfl, rfl⟩
    | cons q r => cases h
  | x :: es, D, i, h => by
    obtain ⟨q, r, rfl, hk, hr⟩ := h.cons
    have hq : (Op.equal 170 (kyV k) x.key).run Tryz.prog w = .ok (keyB q k) w := by rw [hk]; exact eql_key k q w
    cases e : keyB q k
    · have hrun : (Instr.findAsking 170 (kyV k) (x :: es) i).run Tryz.prog w = (Instr.findAsking 170 (kyV k) es (i + 1)).run Tryz.prog w := by
        conv => lhs; unfold Instr.findAsking
        simp only [Sem.run_bind, hq, e, Result.andThen_ok, Bool.false_eq_true, if_false]
      have hh : hasK (q :: r) k = hasK r k := by unfold hasK; rw [List.any_cons, e, Bool.false_or]
      rcases askKy k w es r (i + 1) hr with ⟨h1, h2⟩ | ⟨j, e0, v, h1, h2, h3, h4⟩
      · exact .inl ⟨by rw [hrun, h1], by rw [hh, h2]⟩
      · exact .inr ⟨j + 1, e0, v, by rw [hrun, h1]; congr 3; omega, h2, h3, by rw [hh, h4]⟩
    · refine .inr ⟨0, x, x.val, ?_, rfl, by rw [hk, kyV_of e], by unfold hasK; rw [List.any_cons, e, Bool.true_or]⟩
      unfold Instr.findAsking
      simp only [Sem.run_bind, hq, e, Result.andThen_ok, if_true]
      rfl
theorem findKy (k : Ru) (w : World) (es : List MapEntry) (D : List Ru) (h : KyEnts es D) :
    ((Instr.findKey 170 (kyV k) es).run Tryz.prog w = .ok none w ∧ hasK D k = false) ∨
    ∃ j e v, (Instr.findKey 170 (kyV k) es).run Tryz.prog w = .ok (some (j, v)) w ∧ es[j]? = some e ∧ e.key = kyV k ∧ hasK D k = true := by
  obtain ⟨fs, hu⟩ := underKy
  have e : (Instr.findKey 170 (kyV k) es).run Tryz.prog w = (Instr.findAsking 170 (kyV k) es).run Tryz.prog w := by
    unfold Instr.findKey
    simp only [Sem.run_bind, run_underlying hu, Result.andThen_ok]
    cases es with
    | nil => rfl
    | cons x es =>
      have : Instr.findNow (.struct fs) (kyV k) (x :: es) 0 = none := by
        unfold Instr.findNow Instr.sameNow
        rfl
      rw [this]
  rw [e]
  rcases askKy k w es D 0 h with h1 | ⟨j, e0, v, h1, h2⟩
  · exact .inl h1
  · exact .inr ⟨j, e0, v, by rw [h1, Nat.zero_add], h2⟩
/-- block b is a map with the keys of a list -/
def KyMap (b : Nat) (D : List Ru) (W : World) : Prop := ∃ es clock, W.heap[b]? = some (.map es clock) ∧ KyEnts es.toList D
section
variable {b : Nat} {D : List Ru} {w W W' : World} {k : Ru}
theorem KyMap.lt (h : KyMap b D W) : b < W.heap.size := by
  obtain ⟨es, clock, hb, _⟩ := h
  exact (Array.getElem?_eq_some_iff.1 hb).1
theorem KyMap.at (h : KyMap b D W) (hb : W'.heap[b]? = W.heap[b]?) : KyMap b D W' := by
  obtain ⟨es, clock, e, r⟩ := h
  exact ⟨es, clock, hb.trans e, r⟩
theorem KyMap.below (h : KyMap b D W) (hb : Below W.heap.size W W') : KyMap b D W' := h.at (hb.block b h.lt)
theorem KyMap.made (W : World) : KyMap W.heap.size [] (W.alloc (.map #[] 0)) := ⟨#[], 0, (MapKept.heap_alloc W _).1, rfl⟩
theorem KyMap.len (h : KyMap b D W) (ty : TypeId) : (Builtin.len_ #[167] ty #[.map (some b)]).run Tryz.prog W = .ok (.int .i64 D.length) W := by
  obtain ⟨es, clock, hb, he⟩ := h
  have e1 : es.size = D.length := by
    have := congrArg List.length he
    simpa using this
  simp [Builtin.len_, run_underlying Tryz.underlying167, MapKept.run_getObj_map hb, goInt, Result.andThen, e1]
theorem KyMap.put (h : KyMap b D W) (k : Ru) (u : Value) : ∃ W', (Instr.mapUpdate 167 (.map (some b)) (kyV k) u).run Tryz.prog W = .ok () W' ∧ KyMap b (addK D k) W' ∧ W.grownBy W' (some b) := by
  obtain ⟨es, clock, hb, he⟩ := h
  have hg : ∀ o : Obj, W.grownBy (ChangeMaps.setBlock W b o) (some b) := fun o => ⟨rfl, rfl, rfl, by simp [ChangeMaps.setBlock], fun i _ hi => ChangeMaps.heap_setBlock_other hb _ (fun e => hi (by rw [e]))⟩
  rcases findKy k W es.toList D he with ⟨h1, h2⟩ | ⟨j, e, v, h1, h2, h3, h4⟩
  · refine ⟨ChangeMaps.setBlock W b (.map (es.push ⟨kyV k, u, clock⟩) (clock + 1)), ?_, ⟨_, _, ChangeMaps.heap_setBlock_same hb _, ?_⟩, hg _⟩
    · simp [Instr.mapUpdate, run_underlying Tryz.underlying167, MapKept.run_getObj_map hb, checkKy, h1, MapKept.run_setObj_map _ hb, Result.andThen, ChangeMaps.setBlock]
    · unfold addK
      rw [h2]
      unfold KyEnts at he ⊢
      simp [he]
  · have hj : es[j]? = some e := by simpa using h2
    refine ⟨ChangeMaps.setBlock W b (.map (es.modify j (fun e' => { e' with key := kyV k, val := u })) clock), ?_, ⟨_, _, ChangeMaps.heap_setBlock_same hb _, ?_⟩, hg _⟩
    · simp [Instr.mapUpdate, run_underlying Tryz.underlying167, MapKept.run_getObj_map hb, checkKy, h1, hj, h3, staysKy, MapKept.run_setObj_map _ hb, Result.andThen, ChangeMaps.setBlock]
    · unfold addK
      rw [h4, if_pos rfl]
      unfold KyEnts at he ⊢
      rw [Array.toList_modify, ChangeMaps.modify_eq_set _ _ _ _ h2, List.map_set, he]
      have hjk : (D.map kyV)[j]? = some (kyV k) := by rw [← he, List.getElem?_map, h2]; exact congrArg some h3
      apply List.ext_getElem?
      intro i
      by_cases ei : j = i
      · subst ei
        rw [List.getElem?_set_self (List.getElem?_eq_some_iff.1 hjk).1, hjk]
      · rw [List.getElem?_set_ne ei]
end
section
variable {ops : Array Oper} {rest : List Oper} {o : Oper} {a : Act} {w : World} {Q : Exit → Act → World → Prop}
theorem wpLenKy (hg : o.guard = none) (x : Operand) (ho : o.op = .call { callee := .builtin .len, args := #[x], argTypes := #[167] }) (b : Nat) (D : List Ru) (hx : a.eval x = .map (some b)) (hm : KyMap b D w)
    (h : wpList Tryz.prog ops Q rest (a.put o.dst (.int .i64 D.length)) w) : wpList Tryz.prog ops Q (o :: rest) a w := by
  refine wpList_plain hg fun K' hK' => ?_
  unfold Oper.wp
  simp [execOp, ho, resolve, invoke, builtin, hx, hm.len o.type, Result.andThen]
  exact hK' _ _ h
theorem wpPutKy (hg : o.guard = none) (x y z : Operand) (ho : o.op = .mapUpdate 167 x y z) (b : Nat) (D : List Ru) (k : Ru) (u : Value) (hx : a.eval x = .map (some b)) (hy : a.eval y = kyV k) (hz : a.eval z = u) (hm : KyMap b D w)
    (h : ∀ w', KyMap b (addK D k) w' → w.grownBy w' (some b) → wpList Tryz.prog ops Q rest (a.put o.dst undef) w') : wpList Tryz.prog ops Q (o :: rest) a w := by
  obtain ⟨w', hr, h1, h2⟩ := hm.put k u
  refine wpList_plain hg fun K' hK' => ?_
  unfold Oper.wp
  simp [execOp, ho, hx, hy, hz, hr, Result.andThen]
  exact hK' _ _ (h w' h1 h2)
end
theorem builtKy (u : Ru) : Tryz.prog.built 170 [(0, .agg (cl u.m).toArray), (1, .int .i64 u.p)] = some (kya u) := by kernel_rfl
theorem buildKy {ops : Array Oper} {rest : List Oper} {o : Oper} {a : Act} {w : World} {Q : Exit → Act → World → Prop} (hg : o.guard = none) (x y : Operand) (ho : o.op = .build 170 #[(0, x), (1, y)]) (u : Ru)
    (hx : a.eval x = .agg (cl u.m).toArray) (hy : a.eval y = .int .i64 u.p) (k : wpList Tryz.prog ops Q rest (a.put o.dst (kyV u)) w) : wpList Tryz.prog ops Q (o :: rest) a w := by
  have e : ((#[(0, x), (1, y)] : Array (Nat × Operand)).map fun (p : Nat × Operand) => (p.1, a.eval p.2)).toList = [(0, .agg (cl u.m).toArray), (1, .int .i64 u.p)] := by simp [hx, hy]
  have e' := congrArg (Tryz.prog.built 170) e
  rw [builtKy] at e'
  refine wpList_build hg 170 _ ho (by rw [e']; rfl) ?_
  rw [e']
  exact k
/-- a key counted: the function value that keysWith makes -/
theorem un_count (u : Ru) (b c : Nat) (D : List Ru) (w : World) (hm : KyMap b D w) (hc : Blk c #[.map (some b)] 167 w) :
    Calls Tryz.prog 132 #[.agg (cl u.m).toArray, .int .i64 u.p, .pointer (some ⟨c, 0, none⟩)] w fun e w' => e = .returned (.tuple #[]) ∧ KyMap b (addK D u) w' ∧ Blk c #[.map (some b)] 167 w' ∧ w.grownBy w' (some b) := by
  have R0 := Lib.hid (Blk.new w (cl u.m).toArray 37)
  have HB := Lib.hid (below1 w (.cells (cl u.m).toArray 37))
  have HM := Lib.hid (hm.below HB.out)
  have HC := Lib.hid (hc.below HB.out)
  have c0 : (w.alloc (.cells (cl u.m).toArray 37)).cell? ⟨c, 0, none⟩ = some (.map (some b)) := (cell_of_row _ c 0 _ _ _ HC.out).trans rfl
  have HNE := Lib.hid (show c ≠ b from fun e => by
    subst e
    obtain ⟨es, cl, h, _⟩ := hm
    rw [hc] at h
    cases h)
  clear hm hc
  go_enter Tryz.func132, Tryz.ntmps132
  go_wp2_with (first
    | (refine wpList_load_row rfl 37 _ rfl w.heap.size rfl 37 (cl u.m).toArray (0, 0) _ R0.out Tryz.underlying37 rfl infoCube ?_)
    | (refine buildKy rfl _ _ rfl u rfl rfl ?_)
    | (refine wpPutKy rfl _ _ _ rfl b D u _ rfl rfl rfl HM.out (fun w' h1 h2 => ?_); refine Hid.out ?_))
  have HG := Lib.hid (show w.grownBy w' (some b) from ⟨h2.os.trans HB.out.os, h2.tape.trans HB.out.tape, h2.output.trans HB.out.output, Nat.le_trans HB.out.size h2.size, fun k hk hn => (h2.block k (by have := HB.out.size; omega) hn).trans (HB.out.block k hk)⟩)
  have H1 := Lib.hid h1
  have H2 := Lib.hid (show Blk c #[.map (some b)] 167 w' from (h2.block c HC.out.lt (fun e => HNE.out (by injection e))).trans HC.out)
  clear h1 h2 HM HC c0 R0 HB HNE
  refine Lib.hid ?_
  go_wp2_with fail
  refine bodyPost_end (results_none rfl _ _ _) rfl ?_
  exact ⟨rfl, H1.out, H2.out, HG.out⟩
end Go.Proofs.YtomnpfbebimpkaaGreatDoor
