/- Several of my texts as one: UniMap, UniKey, UniJud, UniSet, UniTake. -/
import Derived.Test.YtomnpfbebimpkaaGreatDoorPackUniM
import Derived.Laws.StructEq
import Derived.Maps.OwnSet
import Derived.ChangeMaps5
import Derived.Test.YtomnpfbebimpkaaGreatDoorPackUniF
import Derived.Test.YtomnpfbebimpkaaGreatDoorCodSnd
/-
  Keys of rules in a map: a store, how many there are.
-/
namespace Go.Proofs.YtomnpfbebimpkaaGreatDoor
set_option maxRecDepth 20000
open Go.RowKit

/-- a key's cells -/
def kyl (u : Ru) : List Value := cl u.m ++ [.int .i64 u.p]
def kya (u : Ru) : Array Value := (kyl u).toArray
abbrev kyV (u : Ru) : Value := .agg (kya u)
theorem keyFields : ∃ f g : Field, (Tryz.prog.fieldsOf 170).toList = [f, g] ∧ f.name ≠ "_" ∧ f.type = 37 ∧ f.offset = 0 ∧ g.name ≠ "_" ∧ g.type = 3 ∧ g.offset = 24 := ⟨_, _, rfl, by decide, rfl, rfl, by decide, rfl, rfl⟩
theorem partK0 (a : Ru) (w : World) : (part 37 (kya a) 0).run Tryz.prog w = .ok (.agg (cc a.m)) w := by kernel_rfl
theorem partK1 (a : Ru) (w : World) : (part 3 (kya a) 24).run Tryz.prog w = .ok (.int .i64 a.p) w := by kernel_rfl
theorem eql_cubeD (d : Nat) (a b : Nat → Int) (w : World) : (Op.equalIn (d + 3) 37 (.agg (cc a)) (.agg (cc b))).run Tryz.prog w = .ok (cEq a b) w := by
  obtain ⟨f, g, hf, f1, f2, f3, g1, g2, g3⟩ := cubeFields
  rw [run_equalIn_struct w (d + 2) 37 (cc a) (cc b) (by kernel_rfl) (by kernel_rfl), hf]
  simp only [Op.eqFields, f1, f2, f3, g1, g2, g3, ne_eq, not_false_eq_true, if_true, Sem.run_bind, partVal, Result.andThen_ok, eqlHl d]
  unfold cEq
  cases h : hEq a b
  · simp
  · cases h' : hEq (care a) (care b) <;> simp [h', partCare, eqlHl d]
theorem eql_key (a b : Ru) (w : World) : (Op.equalIn 10000 170 (kyV a) (kyV b)).run Tryz.prog w = .ok (keyB b a) w := by
  rw [keyB_symm]
  obtain ⟨f, g, hf, f1, f2, f3, g1, g2, g3⟩ := keyFields
  rw [run_equalIn_struct w 9999 170 (kya a) (kya b) (by kernel_rfl) (by kernel_rfl), hf]
  have hI : ∀ x y : Int, (Op.equalIn 9999 3 (.int .i64 x) (.int .i64 y)).run Tryz.prog w = .ok (x == y) w := fun x y => run_equalIn_int w 9998 3 .i64 .i64 x y Tryz.underlying3
  unfold keyB
  simp only [Op.eqFields, f1, f2, f3, g1, g2, g3, ne_eq, not_false_eq_true, if_true, Sem.run_bind, partK0, Result.andThen_ok, eql_cubeD 9996]
  cases e1 : cEq a.m b.m
  · simp
  · simp only [Bool.not_true, Bool.false_eq_true, if_false, Sem.run_bind, partK1, Result.andThen_ok, hI]
    cases e2 : a.p == b.p <;> simp
theorem checkKy (em : Bool) (a : Ru) (w : World) : (Instr.checkKey em 10000 170 (kyV a)).run Tryz.prog w = .ok () w := by kernel_rfl
theorem sameKy (a : Ru) : Instr.sameBits 10000 (kyV a) (kyV a) = true := by
  show Instr.sameBits (9998 + 1 + 1) (kyV a) (kyV a) = true
  simp [Instr.sameBits, kya, kyl, cl, List.range, List.range.loop]
theorem staysKy (a : Ru) (w : World) : (Instr.keyThatStays (kyV a) (kyV a)).run Tryz.prog w = .ok (kyV a) w := by
  unfold Instr.keyThatStays
  rw [sameKy]
  rfl
theorem underKy : ∃ fs, Tryz.prog.underlying 170 = some (.struct fs) := ⟨_, Tryz.underlying170⟩
/-- the keys of a map's block -/
def KyEnts (es : List MapEntry) (D : List Ru) : Prop := es.map (·.key) = D.map kyV
theorem KyEnts.cons {x : MapEntry} {es : List MapEntry} {D : List Ru} (h : KyEnts (x :: es) D) : ∃ q r, D = q :: r ∧ x.key = kyV q ∧ KyEnts es r := by
  cases D with
  | nil => cases h
  | cons q r =>
    unfold KyEnts at h
    simp only [List.map_cons, List.cons.injEq] at h
    exact ⟨q, r, rfl, h.1, h.2⟩
theorem kyV_of {a b : Ru} (h : keyB a b = true) : kyV a = kyV b := by
  obtain ⟨h1, h2⟩ := keyB_p h
  have h3 : cl a.m = cl b.m := by
    have := cEq_cc h2
    unfold cc at this
    simpa using congrArg Array.toList this
  unfold kyV kya kyl
  rw [h3, h1]
theorem askKy (k : Ru) (w : World) : ∀ (es : List MapEntry) (D : List Ru) (i : Nat), KyEnts es D →
    ((Instr.findAsking 170 (kyV k) es i).run Tryz.prog w = .ok none w ∧ hasK D k = false) ∨
    ∃ j e v, (Instr.findAsking 170 (kyV k) es i).run Tryz.prog w = .ok (some (i + j, v)) w ∧ es[j]? = some e ∧ e.key = kyV k ∧ hasK D k = true
  | [], D, i, h => by
    cases D with
    | nil => exact .inl ⟨rfl, rfl⟩
    | cons q r => cases h
  | x :: es, D, i, h => by
    obtain ⟨q, r, rfl, hk, hr⟩ := h.cons
    have hq : (Op.equal 170 (kyV k) x.key).run Tryz.prog w = .ok (keyB q k) w := by rw [hk]; exact eql_key k q w
    cases e : keyB q k
    · have hrun : (Instr.findAsking 170 (kyV k) (x :: es) i).run Tryz.prog w = (Instr.findAsking 170 (kyV k) es (i + 1)).run Tryz.prog w := by
        conv => lhs; unfold Instr.findAsking
        simp only [Sem.run_bind, hq, e, Result.andThen_ok, Bool.false_eq_true, if_false]
      have hh : hasK (q :: r) k = hasK r k := by unfold hasK; rw [List.any_cons, e, Bool.false_or]
      rcases askKy k w es r (i + 1) hr with ⟨h1, h2⟩ | ⟨j, e0, v, h1, h2, h3, h4⟩
      · exact .inl ⟨by rw [hrun, h1], by rw [hh, h2]⟩
      · exact .inr ⟨j + 1, e0, v, by rw [hrun, h1]; congr 3; omega, h2, h3, by rw [hh, h4]⟩
    · refine .inr ⟨0, x, x.val, ?_, rfl, by rw [hk, kyV_of e], by unfold hasK; rw [List.any_cons, e, Bool.true_or]⟩
      unfold Instr.findAsking
      simp only [Sem.run_bind, hq, e, Result.andThen_ok, if_true]
      rfl
theorem findKy (k : Ru) (w : World) (es : List MapEntry) (D : List Ru) (h : KyEnts es D) :
    ((Instr.findKey 170 (kyV k) es).run Tryz.prog w = .ok none w ∧ hasK D k = false) ∨
    ∃ j e v, (Instr.findKey 170 (kyV k) es).run Tryz.prog w = .ok (some (j, v)) w ∧ es[j]? = some e ∧ e.key = kyV k ∧ hasK D k = true := by
  obtain ⟨fs, hu⟩ := underKy
  have e : (Instr.findKey 170 (kyV k) es).run Tryz.prog w = (Instr.findAsking 170 (kyV k) es).run Tryz.prog w := by
    unfold Instr.findKey
    simp only [Sem.run_bind, run_underlying hu, Result.andThen_ok]
    cases es with
    | nil => rfl
    | cons x es =>
      have : Instr.findNow (.struct fs) (kyV k) (x :: es) 0 = none := by
        unfold Instr.findNow Instr.sameNow
        rfl
      rw [this]
  rw [e]
  rcases askKy k w es D 0 h with h1 | ⟨j, e0, v, h1, h2⟩
  · exact .inl h1
  · exact .inr ⟨j, e0, v, by rw [h1, Nat.zero_add], h2⟩
/-- block b is a map with the keys of a list -/
def KyMap (b : Nat) (D : List Ru) (W : World) : Prop := ∃ es clock, W.heap[b]? = some (.map es clock) ∧ KyEnts es.toList D
section
variable {b : Nat} {D : List Ru} {w W W' : World} {k : Ru}
theorem KyMap.lt (h : KyMap b D W) : b < W.heap.size := by
  obtain ⟨es, clock, hb, _⟩ := h
  exact (Array.getElem?_eq_some_iff.1 hb).1
theorem KyMap.at (h : KyMap b D W) (hb : W'.heap[b]? = W.heap[b]?) : KyMap b D W' := by
  obtain ⟨es, clock, e, r⟩ := h
  exact ⟨es, clock, hb.trans e, r⟩
theorem KyMap.below (h : KyMap b D W) (hb : Below W.heap.size W W') : KyMap b D W' := h.at (hb.block b h.lt)
theorem KyMap.made (W : World) : KyMap W.heap.size [] (W.alloc (.map #[] 0)) := ⟨#[], 0, (MapKept.heap_alloc W _).1, rfl⟩
theorem KyMap.len (h : KyMap b D W) (ty : TypeId) : (Builtin.len_ #[167] ty #[.map (some b)]).run Tryz.prog W = .ok (.int .i64 D.length) W := by
  obtain ⟨es, clock, hb, he⟩ := h
  have e1 : es.size = D.length := by
    have := congrArg List.length he
    simpa using this
  simp [Builtin.len_, run_underlying Tryz.underlying167, MapKept.run_getObj_map hb, goInt, Result.andThen, e1]
theorem KyMap.put (h : KyMap b D W) (k : Ru) (u : Value) : ∃ W', (Instr.mapUpdate 167 (.map (some b)) (kyV k) u).run Tryz.prog W = .ok () W' ∧ KyMap b (addK D k) W' ∧ W.grownBy W' (some b) := by
  obtain ⟨es, clock, hb, he⟩ := h
  have hg : ∀ o : Obj, W.grownBy (ChangeMaps.setBlock W b o) (some b) := fun o => ⟨rfl, rfl, rfl, by simp [ChangeMaps.setBlock], fun i _ hi => ChangeMaps.heap_setBlock_other hb _ (fun e => hi (by rw [e]))⟩
  rcases findKy k W es.toList D he with ⟨h1, h2⟩ | ⟨j, e, v, h1, h2, h3, h4⟩
  · refine ⟨ChangeMaps.setBlock W b (.map (es.push ⟨kyV k, u, clock⟩) (clock + 1)), ?_, ⟨_, _, ChangeMaps.heap_setBlock_same hb _, ?_⟩, hg _⟩
    · simp [Instr.mapUpdate, run_underlying Tryz.underlying167, MapKept.run_getObj_map hb, checkKy, h1, MapKept.run_setObj_map _ hb, Result.andThen, ChangeMaps.setBlock]
    · unfold addK
      rw [h2]
      unfold KyEnts at he ⊢
      simp [he]
  · have hj : es[j]? = some e := by simpa using h2
    refine ⟨ChangeMaps.setBlock W b (.map (es.modify j (fun e' => { e' with key := kyV k, val := u })) clock), ?_, ⟨_, _, ChangeMaps.heap_setBlock_same hb _, ?_⟩, hg _⟩
    · simp [Instr.mapUpdate, run_underlying Tryz.underlying167, MapKept.run_getObj_map hb, checkKy, h1, hj, h3, staysKy, MapKept.run_setObj_map _ hb, Result.andThen, ChangeMaps.setBlock]
    · unfold addK
      rw [h4, if_pos rfl]
      unfold KyEnts at he ⊢
      rw [Array.toList_modify, ChangeMaps.modify_eq_set _ _ _ _ h2, List.map_set, he]
      have hjk : (D.map kyV)[j]? = some (kyV k) := by rw [← he, List.getElem?_map, h2]; exact congrArg some h3
      apply List.ext_getElem?
      intro i
      by_cases ei : j = i
      · subst ei
        rw [List.getElem?_set_self (List.getElem?_eq_some_iff.1 hjk).1, hjk]
      · rw [List.getElem?_set_ne ei]
end
section
variable {ops : Array Oper} {rest : List Oper} {o : Oper} {a : Act} {w : World} {Q : Exit → Act → World → Prop}
theorem wpLenKy (hg : o.guard = none) (x : Operand) (ho : o.op = .call { callee := .builtin .len, args := #[x], argTypes := #[167] }) (b : Nat) (D : List Ru) (hx : a.eval x = .map (some b)) (hm : KyMap b D w)
    (h : wpList Tryz.prog ops Q rest (a.put o.dst (.int .i64 D.length)) w) : wpList Tryz.prog ops Q (o :: rest) a w := by
  refine wpList_plain hg fun K' hK' => ?_
  unfold Oper.wp
  simp [execOp, ho, resolve, invoke, builtin, hx, hm.len o.type, Result.andThen]
  exact hK' _ _ h
theorem wpPutKy (hg : o.guard = none) (x y z : Operand) (ho : o.op = .mapUpdate 167 x y z) (b : Nat) (D : List Ru) (k : Ru) (u : Value) (hx : a.eval x = .map (some b)) (hy : a.eval y = kyV k) (hz : a.eval z = u) (hm : KyMap b D w)
    (h : ∀ w', KyMap b (addK D k) w' → w.grownBy w' (some b) → wpList Tryz.prog ops Q rest (a.put o.dst undef) w') : wpList Tryz.prog ops Q (o :: rest) a w := by
  obtain ⟨w', hr, h1, h2⟩ := hm.put k u
  refine wpList_plain hg fun K' hK' => ?_
  unfold Oper.wp
  simp [execOp, ho, hx, hy, hz, hr, Result.andThen]
  exact hK' _ _ (h w' h1 h2)
end
theorem builtKy (u : Ru) : Tryz.prog.built 170 [(0, .agg (cl u.m).toArray), (1, .int .i64 u.p)] = some (kya u) := by kernel_rfl
theorem buildKy {ops : Array Oper} {rest : List Oper} {o : Oper} {a : Act} {w : World} {Q : Exit → Act → World → Prop} (hg : o.guard = none) (x y : Operand) (ho : o.op = .build 170 #[(0, x), (1, y)]) (u : Ru)
    (hx : a.eval x = .agg (cl u.m).toArray) (hy : a.eval y = .int .i64 u.p) (k : wpList Tryz.prog ops Q rest (a.put o.dst (kyV u)) w) : wpList Tryz.prog ops Q (o :: rest) a w := by
  have e : ((#[(0, x), (1, y)] : Array (Nat × Operand)).map fun (p : Nat × Operand) => (p.1, a.eval p.2)).toList = [(0, .agg (cl u.m).toArray), (1, .int .i64 u.p)] := by simp [hx, hy]
  have e' := congrArg (Tryz.prog.built 170) e
  rw [builtKy] at e'
  refine wpList_build hg 170 _ ho (by rw [e']; rfl) ?_
  rw [e']
  exact k
/-- a key counted: the function value that keysWith makes -/
theorem un_count (u : Ru) (b c : Nat) (D : List Ru) (w : World) (hm : KyMap b D w) (hc : Blk c #[.map (some b)] 167 w) :
    Calls Tryz.prog 132 #[.agg (cl u.m).toArray, .int .i64 u.p, .pointer (some ⟨c, 0, none⟩)] w fun e w' => e = .returned (.tuple #[]) ∧ KyMap b (addK D u) w' ∧ Blk c #[.map (some b)] 167 w' ∧ w.grownBy w' (some b) := by
  have R0 := Lib.hid (Blk.new w (cl u.m).toArray 37)
  have HB := Lib.hid (below1 w (.cells (cl u.m).toArray 37))
  have HM := Lib.hid (hm.below HB.out)
  have HC := Lib.hid (hc.below HB.out)
  have c0 : (w.alloc (.cells (cl u.m).toArray 37)).cell? ⟨c, 0, none⟩ = some (.map (some b)) := (cell_of_row _ c 0 _ _ _ HC.out).trans rfl
  have HNE := Lib.hid (show c ≠ b from fun e => by
    subst e
    obtain ⟨es, cl, h, _⟩ := hm
    rw [hc] at h
    cases h)
  clear hm hc
  go_enter Tryz.func132, Tryz.ntmps132
  go_wp2_with (first
    | (refine wpList_load_row rfl 37 _ rfl w.heap.size rfl 37 (cl u.m).toArray (0, 0) _ R0.out Tryz.underlying37 rfl infoCube ?_)
    | (refine buildKy rfl _ _ rfl u rfl rfl ?_)
    | (refine wpPutKy rfl _ _ _ rfl b D u _ rfl rfl rfl HM.out (fun w' h1 h2 => ?_); refine Hid.out ?_))
  have HG := Lib.hid (show w.grownBy w' (some b) from ⟨h2.os.trans HB.out.os, h2.tape.trans HB.out.tape, h2.output.trans HB.out.output, Nat.le_trans HB.out.size h2.size, fun k hk hn => (h2.block k (by have := HB.out.size; omega) hn).trans (HB.out.block k hk)⟩)
  have H1 := Lib.hid h1
  have H2 := Lib.hid (show Blk c #[.map (some b)] 167 w' from (h2.block c HC.out.lt (fun e => HNE.out (by injection e))).trans HC.out)
  clear h1 h2 HM HC c0 R0 HB HNE
  refine Lib.hid ?_
  go_wp2_with fail
  refine bodyPost_end (results_none rfl _ _ _) rfl ?_
  exact ⟨rfl, H1.out, H2.out, HG.out⟩
end Go.Proofs.YtomnpfbebimpkaaGreatDoor

/-
  keysWith: how many keys there are, with one change more.
-/
namespace Go.Proofs.YtomnpfbebimpkaaGreatDoor
set_option maxRecDepth 20000
open Go.RowKit

theorem zeroMd : ((Tryz.prog.info? KM.T).bind (·.zero)).map (·.cells) = some #[Value.int IntKind.i64 0, Value.int IntKind.u64 0, Value.int IntKind.u64 0, Value.int IntKind.u64 0, Value.int IntKind.u64 0, Value.int IntKind.u64 0, Value.int IntKind.u64 0, Value.int IntKind.u64 0, Value.int IntKind.u64 0, Value.int IntKind.u64 0, Value.int IntKind.u64 0, Value.int IntKind.u64 0, Value.int IntKind.u64 0, Value.int IntKind.u64 0, Value.int IntKind.u64 0, Value.int IntKind.u64 0, Value.int IntKind.u64 0, Value.int IntKind.u64 0, Value.int IntKind.u64 0, Value.int IntKind.u64 0, Value.int IntKind.u64 0, Value.int IntKind.u64 0, Value.int IntKind.u64 0, Value.int IntKind.u64 0, Value.int IntKind.u64 0, Value.int IntKind.i64 0, Value.slice none 0 0, Value.int IntKind.i64 0, Value.int IntKind.i64 0, Value.int IntKind.i64 0, Value.bool false] := by kernel_rfl
theorem fillMd (m : Mm) : Instr.fill (fun i' => some (i' * 31, 31)) ((Array.range (1 * 31)).map ((#[Value.int IntKind.i64 0, Value.int IntKind.u64 0, Value.int IntKind.u64 0, Value.int IntKind.u64 0, Value.int IntKind.u64 0, Value.int IntKind.u64 0, Value.int IntKind.u64 0, Value.int IntKind.u64 0, Value.int IntKind.u64 0, Value.int IntKind.u64 0, Value.int IntKind.u64 0, Value.int IntKind.u64 0, Value.int IntKind.u64 0, Value.int IntKind.u64 0, Value.int IntKind.u64 0, Value.int IntKind.u64 0, Value.int IntKind.u64 0, Value.int IntKind.u64 0, Value.int IntKind.u64 0, Value.int IntKind.u64 0, Value.int IntKind.u64 0, Value.int IntKind.u64 0, Value.int IntKind.u64 0, Value.int IntKind.u64 0, Value.int IntKind.u64 0, Value.int IntKind.i64 0, Value.slice none 0 0, Value.int IntKind.i64 0, Value.int IntKind.i64 0, Value.int IntKind.i64 0, Value.bool false] : Array Value)[· % (#[Value.int IntKind.i64 0, Value.int IntKind.u64 0, Value.int IntKind.u64 0, Value.int IntKind.u64 0, Value.int IntKind.u64 0, Value.int IntKind.u64 0, Value.int IntKind.u64 0, Value.int IntKind.u64 0, Value.int IntKind.u64 0, Value.int IntKind.u64 0, Value.int IntKind.u64 0, Value.int IntKind.u64 0, Value.int IntKind.u64 0, Value.int IntKind.u64 0, Value.int IntKind.u64 0, Value.int IntKind.u64 0, Value.int IntKind.u64 0, Value.int IntKind.u64 0, Value.int IntKind.u64 0, Value.int IntKind.u64 0, Value.int IntKind.u64 0, Value.int IntKind.u64 0, Value.int IntKind.u64 0, Value.int IntKind.u64 0, Value.int IntKind.u64 0, Value.int IntKind.i64 0, Value.slice none 0 0, Value.int IntKind.i64 0, Value.int IntKind.i64 0, Value.int IntKind.i64 0, Value.bool false] : Array Value).size]!)) [(0, .agg (mca m))] = some (mca m) := by kernel_rfl
theorem oneM {b : Nat} {m : Mm} {W : World} (h : Blk b (mca m) KM.T W) : KLies KM (.slice (some ⟨b, 0, none⟩) 1 1) [m] W := Blk.klies (l := [m]) h okM (by simp [Kd.flat, mca])
/-- what keysWith has: the change's box, the map, the box of the map -/
structure KwS (w0 : World) (m : Mm) (b c : Nat) (D : List Ru) (W : World) : Prop where
  m : Blk w0.heap.size (mca m) 40 W
  map : KyMap b D W
  box : Blk c #[.map (some b)] 167 W
  kept : Below w0.heap.size w0 W
  lt : w0.heap.size < b
section
variable {w0 W W' : World} {m : Mm} {b c : Nat} {D D' : List Ru}
theorem KwS.below (hb : Below W.heap.size W W') (h : KwS w0 m b c D W) : KwS w0 m b c D W' := ⟨h.m.below hb, h.map.below hb, h.box.below hb, h.kept.trans (hb.mono h.kept.size), h.lt⟩
theorem KwS.upto {W0 : World} (hb : Below W0.heap.size W W') (h0 : KwS w0 m b c D W0) (h : KwS w0 m b c D W) : KwS w0 m b c D W' :=
  ⟨(hb.block _ h0.m.lt).trans h.m, h.map.at (hb.block _ h0.map.lt), (hb.block _ h0.box.lt).trans h.box, h.kept.trans (hb.mono h0.kept.size), h.lt⟩
theorem KwS.count (h : KwS w0 m b c D W) (hm : KyMap b D' W') (hc : Blk c #[.map (some b)] 167 W') (hg : W.grownBy W' (some b)) : KwS w0 m b c D' W' := by
  have hl := h.lt
  exact ⟨(hg.block _ h.m.lt fun e => by injection e with e; omega).trans h.m, hm, hc, h.kept.trans ⟨hg.os, hg.tape, hg.output, hg.size, fun k hk => hg.block k (by have := h.kept.size; omega) fun e => by injection e with e; omega⟩, hl⟩
end
theorem addsK_snoc (ks rs : List Ru) (r : Ru) : addsK ks (rs ++ [r]) = addK (addsK ks rs) r := by rw [addsK_append]; rfl
theorem addL_snoc (ms : List Mu) (m : Mu) : addL (ms ++ [m]) = addL ms ++ (if m.kind = 1 then [kyU m] else []) := by
  unfold addL
  rw [List.filter_append, List.map_append]
  congr 1
  by_cases h : m.kind = 1 <;> simp [h]
set_option maxHeartbeats 4000000 in
set_option maxRecDepth 100000 in
theorem un_keys (x : Um) (B k : Nat) (hF : FitM k x) (m : Mm) (w0 : World) (h : UniA B x w0) :
    Calls Tryz.prog 107 #[.pointer (some ⟨x.p, 0, none⟩), .agg (mca m)] w0 fun e w' => e = .returned (.int .i64 ((keysU x.un.base (chgO x.un.opn ++ [m.u])).length : Int)) ∧ Below w0.heap.size w0 w' := by
  have HCNT := Lib.hid (show (addsK [] (x.un.base.map kyR ++ addL (chgO x.un.opn ++ [m.u]))).length = (keysU x.un.base (chgO x.un.opn ++ [m.u])).length from keys_count hF.fit.tab _)
  rw [← HCNT.out]
  clear HCNT
  have HCO := Lib.hid (show (chgT x.ts ++ [m]).map (·.u) = chgO x.un.opn ++ [m.u] by rw [List.map_append, chgT_u]; rfl)
  rw [← HCO.out]
  clear HCO
  obtain ⟨pb, cb, hvb⟩ := h.base.1.form
  have HVB := Lib.hid hvb
  have HU := Lib.hid h
  have HLC := Lib.hid (show (chgT x.ts).length ≤ 100000 ∧ x.ts.length ≤ 100000 by have := hF.len; omega)
  have HLX := Lib.hid (show (chgT x.ts).length + [m].length ≤ 1000000 by have := hF.len; rw [List.length_singleton]; omega)
  have HLK := Lib.hid (show (chgT x.ts ++ [m]).length ≤ 100000 by have := hF.len; rw [List.length_append, List.length_singleton]; omega)
  have hlb : x.L.length ≤ 9000 := by have := hF.len; omega
  clear h hvb hF
  obtain ⟨n, hn⟩ : ∃ n, n = x.L.length := ⟨_, rfl⟩
  have HN := Lib.hid hn
  rw [← hn] at hlb HVB
  clear hn
  obtain ⟨C, hC⟩ : ∃ C, C = chgT x.ts ++ [m] := ⟨_, rfl⟩
  have HCC := Lib.hid hC
  rw [← hC] at HLK ⊢
  clear hC
  obtain ⟨n2, hn2⟩ : ∃ n2, n2 = C.length := ⟨_, rfl⟩
  have HN2 := Lib.hid hn2
  clear hn2
  have eg : ∀ args w, (callFunc 132 args).run Tryz.prog w = .ok (.enter 132 args) w := fun _ _ => rfl
  have R0 := Lib.hid (Blk.new w0 (mca m) 40)
  have HB0 := Lib.hid (below1 w0 (.cells (mca m) 40))
  have hmm := @run_makeMap Tryz.prog
  go_enter Tryz.func107, Tryz.ntmps107
  go_upto_region 1 with fail
  generalize hW1 : w0.alloc (.cells (mca m) 40) = W1 at *
  clear hW1
  have HM1 := Lib.hid (KyMap.made W1)
  have HB1 := Lib.hid (below1 W1 (.map #[] 0))
  have R1 := Lib.hid (R0.out.below HB1.out)
  have RB := Lib.hid (Blk.new (W1.alloc (.map #[] 0)) #[.map (some W1.heap.size)] 167)
  have HB2 := Lib.hid (below1 (W1.alloc (.map #[] 0)) (.cells #[.map (some W1.heap.size)] 167))
  have RB := Lib.hid (Blk.new2 W1 (.map #[] 0) #[.map (some W1.heap.size)] 167)
  go_upto_region 2 with fail
  have HS := Lib.hid (show KwS w0 m W1.heap.size (W1.heap.size + 1) [] ((W1.alloc (.map #[] 0)).alloc (.cells #[.map (some W1.heap.size)] 167)) from
    ⟨R1.out.below HB2.out, HM1.out.below HB2.out, RB.out, (HB0.out.trans (HB1.out.mono HB0.out.size)).trans (HB2.out.mono (Nat.le_trans HB0.out.size HB1.out.size)), R0.out.lt⟩)
  clear HB0 HB1 HB2 R0 R1 RB HM1
  obtain ⟨bm, hbm⟩ : ∃ bm, bm = W1.heap.size := ⟨_, rfl⟩
  rw [← hbm] at HS ⊢
  clear hbm
  generalize hWW : (W1.alloc (.map #[] 0)).alloc (.cells #[.map (some bm)] 167) = W2 at *
  clear hWW hmm
  have c1 : W2.cell? ⟨x.p, 1, none⟩ = some (.slice pb n cb) := by rw [← HVB.out]; exact (HU.out.below HS.out.kept).vb_
  go_wp2_with fail
  clear c1
  go_loopg [18] n (fun k s18 wr => ∃ r : Nat, r + k = n ∧ s18 = .int .i64 r ∧ KwS w0 m bm (bm + 1) (addsK [] (((x.L.take r).map (·.u)).map kyR)) wr)
  case atStart => exact ⟨0, by omega, rfl, HS.out⟩
  case round =>
    clear HS
    obtain ⟨r, hr, rfl, hs⟩ := hrel
    have HS := Lib.hid hs
    clear hs
    by_cases hlt : r < n
    · have hltI : (r : Int) < (n : Int) := by omega
      obtain ⟨y, hy⟩ := lt_some (l := x.L) (i := r) (by have := HN.out; omega)
      obtain ⟨bb, o, rfl, hrg⟩ := (show KLies KR (.slice pb n cb) x.L wr by rw [← HVB.out]; exact (HU.out.below HS.out.kept).base.1.lies okR).at hy
      have HR := Lib.hid hrg
      have HAD := Lib.hid (show addK (addsK [] (((x.L.take r).map (·.u)).map kyR)) (kyR y.u) = addsK [] (((x.L.take (r + 1)).map (·.u)).map kyR) by
        rw [List.take_add_one, hy, List.map_append, List.map_append]
        exact (addsK_snoc _ _ _).symm)
      clear hrg hy
      go_upto_region 6 with (first
        | (refine wpList_load_mid rfl 88 _ rfl bb (o + r * 32) rfl (rcl y) _ HR.out Tryz.underlying88 rfl infoR ?_)
        | (refine wpList_store_row rfl 88 _ _ rfl wr.heap.size (rca y) rfl rfl 88 _ (heap_alloc_new _ _) (by kernel_rfl) rfl (rca_one _) ?_; rw [World.setRow_alloc_new]))
      have RX := Lib.hid (Blk.new wr (rca y) 88)
      have HS1 := Lib.hid (KwS.below (below1 wr (.cells (rca y) 88)) HS.out)
      clear HR HS
      generalize hW1 : wr.alloc (.cells (rca y) 88) = W1 at *
      clear hW1
      obtain ⟨mt, k24, _⟩ := RX.out.cellsR
      have MT := Lib.hid mt
      have HCT := Lib.hid (un_count (kyR y.u) bm (bm + 1) _ W1 HS1.out.map HS1.out.box)
      clear mt RX
      go_wp2_with (first
        | (refine wpList_load_mid rfl 37 _ rfl wr.heap.size 0 rfl (cl y.u.m) _ MT.out Tryz.underlying37 rfl infoCube ?_)
        | (go_at_fn 132; refine HCT.out.mono ?_; rintro e w2 ⟨rfl, h1, h2, h3⟩; refine Hid.out ?_))
      have HS2 := Lib.hid (HS1.out.count (HAD.out ▸ h1) h2 h3)
      clear h1 h2 h3 HS1 MT k24 HCT
      refine Lib.hid ?_
      go_wp2_with fail
      go_roundg (n - (r + 1))
      case measure => omega
      case rel => exact ⟨r + 1, by omega, by go_num, HS2.out⟩
    · have hltI : ¬ (r : Int) < (n : Int) := by omega
      have HF := Lib.hid (show KwS w0 m bm (bm + 1) (addsK [] (x.un.base.map kyR)) wr by
        have e : x.L.take r = x.L := List.take_of_length_le (by have := HN.out; omega)
        have h := HS.out
        rw [e] at h
        exact h)
      clear HS
      have hl2 : n2 ≤ 100000 := by rw [HN2.out]; exact HLK.out
      clear HN HVB hlt
      go_upto_region 8 with fail
      have HSW := Lib.hid (KwS.below (Below.refl _ wr).drew HF.out)
      refine wp_region_held_drew (S := fun W' => Blk w0.heap.size (mca m) 40 W') (by kernel_rfl) HSW.out.m (fun hS => ?_)
      clear HF
      generalize wr.drew = W at *
      refine seqRead 0 (v := _) rfl (by kernel_rfl) (by kernel_rfl) (by kernel_rfl) (fun _ _ _ h => h) rfl (fun w hSw => by go_simp <;> with_reducible rfl) hS ?_
      try simp only [Act.put, List.setIfInBounds_toArray, List.set_cons_zero, List.set_cons_succ]
      refine seqRead 2 (v := _) rfl (by kernel_rfl) (by kernel_rfl) (by kernel_rfl) (fun _ _ _ h => h) rfl (fun w hSw => (show (execOp _ _).run _ w = .ok (.value (.agg (mca m))) w from execRow0 rfl w0.heap.size rfl hSw Tryz.underlying40 rfl infoMod)) hS ?_
      try simp only [Act.put, List.setIfInBounds_toArray, List.set_cons_zero, List.set_cons_succ]
      refine seqRead 6 (v := _) rfl (by kernel_rfl) (by kernel_rfl) (by kernel_rfl) (fun _ _ _ h => h) rfl (fun w hSw => by go_simp <;> with_reducible rfl) hS ?_
      try simp only [Act.put, List.setIfInBounds_toArray, List.set_cons_zero, List.set_cons_succ]
      refine seqActs2 1 3 rfl rfl (by kernel_rfl) rfl (fun K hK => ?_) rfl (fun K hK => ?_)
      · go_simp
        refine (un_changes x B HLC.out W (HU.out.below HSW.out.kept)).mono ?_
        rintro e Wa ⟨vc, rfl, hvc, hb⟩
        have HSWa := Lib.hid (KwS.below hb HSW.out)
        have HVCWa := Lib.hid hvc
        have HSZ := Lib.hid hb.size
        refine hK.out _ _ HSWa.out.m (fun hS => ?_)
        clear hK K hvc hb
        try simp only [Act.put, List.setIfInBounds_toArray, List.set_cons_zero, List.set_cons_succ]
        refine seqCall 3 rfl (by kernel_rfl) rfl (fun K hK => ?_)
        refine kbuildOneWp KM okM #[Value.int IntKind.i64 0, Value.int IntKind.u64 0, Value.int IntKind.u64 0, Value.int IntKind.u64 0, Value.int IntKind.u64 0, Value.int IntKind.u64 0, Value.int IntKind.u64 0, Value.int IntKind.u64 0, Value.int IntKind.u64 0, Value.int IntKind.u64 0, Value.int IntKind.u64 0, Value.int IntKind.u64 0, Value.int IntKind.u64 0, Value.int IntKind.u64 0, Value.int IntKind.u64 0, Value.int IntKind.u64 0, Value.int IntKind.u64 0, Value.int IntKind.u64 0, Value.int IntKind.u64 0, Value.int IntKind.u64 0, Value.int IntKind.u64 0, Value.int IntKind.u64 0, Value.int IntKind.u64 0, Value.int IntKind.u64 0, Value.int IntKind.u64 0, Value.int IntKind.i64 0, Value.slice none 0 0, Value.int IntKind.i64 0, Value.int IntKind.i64 0, Value.int IntKind.i64 0, Value.bool false] zeroMd (.tmp 31) rfl (mca m) rfl (by decide) (fillMd m) ?_
        have HSWab := Lib.hid (KwS.below (below1 Wa (.cells (mca m) KM.T)) HSWa.out)
        have HBSWab := Lib.hid (Blk.new Wa (mca m) KM.T)
        have HVCWab := Lib.hid (HVCWa.out.below (below1 Wa (.cells (mca m) KM.T)))
        have HSZ2 := Lib.hid (Nat.le_trans HSZ.out (below1 Wa (.cells (mca m) KM.T)).size)
        refine hK.out _ _ HSWab.out.m (fun hS => ?_)
        clear hK K
        generalize hWb : Wa.alloc (.cells (mca m) KM.T) = Wab at *
        clear hWb
        try simp only [Act.put, List.setIfInBounds_toArray, List.set_cons_zero, List.set_cons_succ]
        refine seqCall 4 rfl (by kernel_rfl) rfl (fun K hK => ?_)
        refine kappendWp KM okM (.tmp 30) (.tmp 32) rfl W.heap.size vc (chgT x.ts) [m] rfl HVCWab.out _ rfl (oneM HBSWab.out) HSZ2.out HLX.out (fun v5 w5 ho5 hg5 => ?_)
        have HB5 := Lib.hid (Below.grown (Below.refl W.heap.size Wab) hg5 HSZ2.out (fun k e => HVCWab.out.ge k e))
        have HS5 := Lib.hid (KwS.upto HB5.out HSW.out HSWab.out)
        have HO5 := Lib.hid (show KOwns KM (bm + 1) v5 C w5 by rw [HCC.out]; exact ho5.mono HSW.out.map.lt)
        obtain ⟨p5, c5, e5⟩ := HO5.out.form
        rw [← HN2.out] at e5
        subst e5
        refine hK.out _ _ HS5.out.m (fun hS => ?_)
        clear hK K ho5 hg5 HB5 HSZ
        try simp only [Act.put, List.setIfInBounds_toArray, List.set_cons_zero, List.set_cons_succ]
        refine seqRead 5 (v := _) rfl (by kernel_rfl) (by kernel_rfl) (by kernel_rfl) (fun _ _ _ h => h) rfl (fun w hSw => by go_simp <;> with_reducible rfl) hS ?_
        try simp only [Act.put, List.setIfInBounds_toArray, List.set_cons_zero, List.set_cons_succ]
        refine seqDone (by kernel_rfl) ?_
        clear hS
        go_wp2_with fail
        go_loopg [35] n2 (fun k s35 wr => ∃ r : Nat, r + k = n2 ∧ s35 = .int .i64 r ∧ KwS w0 m bm (bm + 1) (addsK [] (x.un.base.map kyR ++ addL ((C.take r).map (·.u)))) wr ∧ KOwns KM (bm + 1) (.slice p5 n2 c5) C wr)
        case atStart => exact ⟨0, by omega, rfl, by rw [show addL ((C.take 0).map (·.u)) = [] from rfl, List.append_nil]; exact HS5.out, HO5.out⟩
        case round =>
          obtain ⟨r, hr, rfl, hs, ho⟩ := hrel
          have HS := Lib.hid hs
          have HO := Lib.hid ho
          clear hs ho
          by_cases hlt : r < n2
          · have hltI : (r : Int) < (n2 : Int) := by omega
            obtain ⟨y, hy⟩ := lt_some (l := C) (i := r) (by have := HN2.out; omega)
            obtain ⟨bb, o, rfl, hrg⟩ := (HO.out.lies okM).at hy
            have HR := Lib.hid hrg
            have HTK := Lib.hid (show addL ((C.take (r + 1)).map (·.u)) = addL ((C.take r).map (·.u)) ++ (if y.u.kind = 1 then [kyU y.u] else []) by
              rw [List.take_add_one, hy, List.map_append]
              exact addL_snoc _ _)
            clear hrg hy
            go_upto_region 11 with (first
              | (refine wpList_load_mid rfl 40 _ rfl bb (o + r * 31) rfl (mcl y) _ HR.out Tryz.underlying40 rfl infoMod ?_)
              | (refine wpList_store_row rfl 40 _ _ rfl wr.heap.size (mca y) rfl rfl 40 _ (heap_alloc_new _ _) (by kernel_rfl) rfl (mca_one _) ?_; rw [World.setRow_alloc_new]))
            have RX := Lib.hid (Blk.new wr (mca y) 40)
            have HBW := Lib.hid (below1 wr (.cells (mca y) 40))
            have HS1 := Lib.hid (KwS.below HBW.out HS.out)
            have HO1 := Lib.hid (HO.out.below HBW.out)
            clear HR HS HO HBW
            generalize hW1 : wr.alloc (.cells (mca y) 40) = W1 at *
            clear hW1
            obtain ⟨k0, mt, k25, _⟩ := RX.out.cellsM
            have MT := Lib.hid mt
            clear mt RX
            by_cases hk : y.u.kind = 1
            · have hk' : (y.u.kind == 1) = true := by simpa using hk
              have HCT := Lib.hid (un_count (kyU y.u) bm (bm + 1) _ W1 HS1.out.map HS1.out.box)
              have HAD := Lib.hid (show addK (addsK [] (x.un.base.map kyR ++ addL ((C.take r).map (·.u)))) (kyU y.u) = addsK [] (x.un.base.map kyR ++ addL ((C.take (r + 1)).map (·.u))) by rw [HTK.out, if_pos hk, ← List.append_assoc, addsK_snoc])
              clear hk
              go_wp2_with (first
                | (refine wpList_load_mid rfl 37 _ rfl wr.heap.size 1 rfl (cl y.u.m) _ MT.out Tryz.underlying37 rfl infoCube ?_)
                | (go_at_fn 132; refine HCT.out.mono ?_; rintro e w2 ⟨rfl, h1, h2, h3⟩; refine Hid.out ?_))
              have HS2 := Lib.hid (HS1.out.count (HAD.out ▸ h1) h2 h3)
              have HO2 := Lib.hid (HO1.out.other fun g hg hl => h3.block g hl fun e => by injection e with e; omega)
              clear h1 h2 h3 HS1 HO1 MT k0 k25 HCT hk'
              refine Lib.hid ?_
              go_wp2_with fail
              go_roundg (n2 - (r + 1))
              case measure => omega
              case rel => exact ⟨r + 1, by omega, by go_num, HS2.out, HO2.out⟩
            · have hk' : (y.u.kind == 1) = false := by simpa using hk
              have HAD := Lib.hid (show addsK [] (x.un.base.map kyR ++ addL ((C.take r).map (·.u))) = addsK [] (x.un.base.map kyR ++ addL ((C.take (r + 1)).map (·.u))) by rw [HTK.out, if_neg hk, List.append_nil])
              clear hk MT
              go_wp2_with fail
              go_roundg (n2 - (r + 1))
              case measure => omega
              case rel => exact ⟨r + 1, by omega, by go_num, by rw [← HAD.out]; exact HS1.out, HO1.out⟩
          · have hltI : ¬ (r : Int) < (n2 : Int) := by omega
            have HF := Lib.hid (show C.take r = C from List.take_of_length_le (by have := HN2.out; omega))
            obtain ⟨D, hD⟩ : ∃ D, D = addsK [] (x.un.base.map kyR ++ addL (C.map (·.u))) := ⟨_, rfl⟩
            have HD := Lib.hid hD
            have HSF := Lib.hid (show KwS w0 m bm (bm + 1) D wr by have h := HS.out; rw [HF.out, ← HD.out] at h; exact h)
            have c0 : wr.cell? ⟨bm + 1, 0, none⟩ = some (.map (some bm)) := (cell_of_row _ (bm + 1) 0 _ _ _ HSF.out.box).trans rfl
            clear hD HS HF
            go_wp2_with (refine wpLenKy rfl _ rfl bm _ rfl HSF.out.map ?_)
            go_ret
            exact ⟨by rw [← HD.out]; rfl, HSF.out.kept⟩
      · refine kbuildOneWp KM okM #[Value.int IntKind.i64 0, Value.int IntKind.u64 0, Value.int IntKind.u64 0, Value.int IntKind.u64 0, Value.int IntKind.u64 0, Value.int IntKind.u64 0, Value.int IntKind.u64 0, Value.int IntKind.u64 0, Value.int IntKind.u64 0, Value.int IntKind.u64 0, Value.int IntKind.u64 0, Value.int IntKind.u64 0, Value.int IntKind.u64 0, Value.int IntKind.u64 0, Value.int IntKind.u64 0, Value.int IntKind.u64 0, Value.int IntKind.u64 0, Value.int IntKind.u64 0, Value.int IntKind.u64 0, Value.int IntKind.u64 0, Value.int IntKind.u64 0, Value.int IntKind.u64 0, Value.int IntKind.u64 0, Value.int IntKind.u64 0, Value.int IntKind.u64 0, Value.int IntKind.i64 0, Value.slice none 0 0, Value.int IntKind.i64 0, Value.int IntKind.i64 0, Value.int IntKind.i64 0, Value.bool false] zeroMd (.tmp 31) rfl (mca m) rfl (by decide) (fillMd m) ?_
        have HSWb := Lib.hid (KwS.below (below1 W (.cells (mca m) KM.T)) HSW.out)
        have HBSWb := Lib.hid (Blk.new W (mca m) KM.T)
        refine hK.out _ _ HSWb.out.m (fun hS => ?_)
        clear hK K
        generalize hWb : W.alloc (.cells (mca m) KM.T) = Wb at *
        clear hWb
        try simp only [Act.put, List.setIfInBounds_toArray, List.set_cons_zero, List.set_cons_succ]
        refine seqCall 1 rfl (by kernel_rfl) rfl (fun K hK => ?_)
        go_simp
        refine (un_changes x B HLC.out Wb (HU.out.below HSWb.out.kept)).mono ?_
        rintro e Wba ⟨vc, rfl, hvc, hb⟩
        have HSWba := Lib.hid (KwS.below hb HSWb.out)
        have HVCWba := Lib.hid hvc
        have HSZ := Lib.hid hb.size
        have HBSWba := Lib.hid (HBSWb.out.below hb)
        refine hK.out _ _ HSWba.out.m (fun hS => ?_)
        clear hK K hvc hb
        try simp only [Act.put, List.setIfInBounds_toArray, List.set_cons_zero, List.set_cons_succ]
        refine seqCall 4 rfl (by kernel_rfl) rfl (fun K hK => ?_)
        refine kappendWp KM okM (.tmp 30) (.tmp 32) rfl Wb.heap.size vc (chgT x.ts) [m] rfl HVCWba.out _ rfl (oneM HBSWba.out) HSZ.out HLX.out (fun v5 w5 ho5 hg5 => ?_)
        have HB5 := Lib.hid (Below.grown (Below.refl Wb.heap.size Wba) hg5 HSZ.out (fun k e => HVCWba.out.ge k e))
        have HS5 := Lib.hid (KwS.upto HB5.out HSWb.out HSWba.out)
        have HO5 := Lib.hid (show KOwns KM (bm + 1) v5 C w5 by rw [HCC.out]; exact ho5.mono HSWb.out.map.lt)
        obtain ⟨p5, c5, e5⟩ := HO5.out.form
        rw [← HN2.out] at e5
        subst e5
        refine hK.out _ _ HS5.out.m (fun hS => ?_)
        clear hK K ho5 hg5 HB5 HSZ
        try simp only [Act.put, List.setIfInBounds_toArray, List.set_cons_zero, List.set_cons_succ]
        refine seqRead 5 (v := _) rfl (by kernel_rfl) (by kernel_rfl) (by kernel_rfl) (fun _ _ _ h => h) rfl (fun w hSw => by go_simp <;> with_reducible rfl) hS ?_
        try simp only [Act.put, List.setIfInBounds_toArray, List.set_cons_zero, List.set_cons_succ]
        refine seqDone (by kernel_rfl) ?_
        clear hS
        go_wp2_with fail
        go_loopg [35] n2 (fun k s35 wr => ∃ r : Nat, r + k = n2 ∧ s35 = .int .i64 r ∧ KwS w0 m bm (bm + 1) (addsK [] (x.un.base.map kyR ++ addL ((C.take r).map (·.u)))) wr ∧ KOwns KM (bm + 1) (.slice p5 n2 c5) C wr)
        case atStart => exact ⟨0, by omega, rfl, by rw [show addL ((C.take 0).map (·.u)) = [] from rfl, List.append_nil]; exact HS5.out, HO5.out⟩
        case round =>
          obtain ⟨r, hr, rfl, hs, ho⟩ := hrel
          have HS := Lib.hid hs
          have HO := Lib.hid ho
          clear hs ho
          by_cases hlt : r < n2
          · have hltI : (r : Int) < (n2 : Int) := by omega
            obtain ⟨y, hy⟩ := lt_some (l := C) (i := r) (by have := HN2.out; omega)
            obtain ⟨bb, o, rfl, hrg⟩ := (HO.out.lies okM).at hy
            have HR := Lib.hid hrg
            have HTK := Lib.hid (show addL ((C.take (r + 1)).map (·.u)) = addL ((C.take r).map (·.u)) ++ (if y.u.kind = 1 then [kyU y.u] else []) by
              rw [List.take_add_one, hy, List.map_append]
              exact addL_snoc _ _)
            clear hrg hy
            go_upto_region 11 with (first
              | (refine wpList_load_mid rfl 40 _ rfl bb (o + r * 31) rfl (mcl y) _ HR.out Tryz.underlying40 rfl infoMod ?_)
              | (refine wpList_store_row rfl 40 _ _ rfl wr.heap.size (mca y) rfl rfl 40 _ (heap_alloc_new _ _) (by kernel_rfl) rfl (mca_one _) ?_; rw [World.setRow_alloc_new]))
            have RX := Lib.hid (Blk.new wr (mca y) 40)
            have HBW := Lib.hid (below1 wr (.cells (mca y) 40))
            have HS1 := Lib.hid (KwS.below HBW.out HS.out)
            have HO1 := Lib.hid (HO.out.below HBW.out)
            clear HR HS HO HBW
            generalize hW1 : wr.alloc (.cells (mca y) 40) = W1 at *
            clear hW1
            obtain ⟨k0, mt, k25, _⟩ := RX.out.cellsM
            have MT := Lib.hid mt
            clear mt RX
            by_cases hk : y.u.kind = 1
            · have hk' : (y.u.kind == 1) = true := by simpa using hk
              have HCT := Lib.hid (un_count (kyU y.u) bm (bm + 1) _ W1 HS1.out.map HS1.out.box)
              have HAD := Lib.hid (show addK (addsK [] (x.un.base.map kyR ++ addL ((C.take r).map (·.u)))) (kyU y.u) = addsK [] (x.un.base.map kyR ++ addL ((C.take (r + 1)).map (·.u))) by rw [HTK.out, if_pos hk, ← List.append_assoc, addsK_snoc])
              clear hk
              go_wp2_with (first
                | (refine wpList_load_mid rfl 37 _ rfl wr.heap.size 1 rfl (cl y.u.m) _ MT.out Tryz.underlying37 rfl infoCube ?_)
                | (go_at_fn 132; refine HCT.out.mono ?_; rintro e w2 ⟨rfl, h1, h2, h3⟩; refine Hid.out ?_))
              have HS2 := Lib.hid (HS1.out.count (HAD.out ▸ h1) h2 h3)
              have HO2 := Lib.hid (HO1.out.other fun g hg hl => h3.block g hl fun e => by injection e with e; omega)
              clear h1 h2 h3 HS1 HO1 MT k0 k25 HCT hk'
              refine Lib.hid ?_
              go_wp2_with fail
              go_roundg (n2 - (r + 1))
              case measure => omega
              case rel => exact ⟨r + 1, by omega, by go_num, HS2.out, HO2.out⟩
            · have hk' : (y.u.kind == 1) = false := by simpa using hk
              have HAD := Lib.hid (show addsK [] (x.un.base.map kyR ++ addL ((C.take r).map (·.u))) = addsK [] (x.un.base.map kyR ++ addL ((C.take (r + 1)).map (·.u))) by rw [HTK.out, if_neg hk, List.append_nil])
              clear hk MT
              go_wp2_with fail
              go_roundg (n2 - (r + 1))
              case measure => omega
              case rel => exact ⟨r + 1, by omega, by go_num, by rw [← HAD.out]; exact HS1.out, HO1.out⟩
          · have hltI : ¬ (r : Int) < (n2 : Int) := by omega
            have HF := Lib.hid (show C.take r = C from List.take_of_length_le (by have := HN2.out; omega))
            obtain ⟨D, hD⟩ : ∃ D, D = addsK [] (x.un.base.map kyR ++ addL (C.map (·.u))) := ⟨_, rfl⟩
            have HD := Lib.hid hD
            have HSF := Lib.hid (show KwS w0 m bm (bm + 1) D wr by have h := HS.out; rw [HF.out, ← HD.out] at h; exact h)
            have c0 : wr.cell? ⟨bm + 1, 0, none⟩ = some (.map (some bm)) := (cell_of_row _ (bm + 1) 0 _ _ _ HSF.out.box).trans rfl
            clear hD HS HF
            go_wp2_with (refine wpLenKy rfl _ rfl bm _ rfl HSF.out.map ?_)
            go_ret
            exact ⟨by rw [← HD.out]; rfl, HSF.out.kept⟩
end Go.Proofs.YtomnpfbebimpkaaGreatDoor

/-
  fault: the error of a change that is judged.
-/
namespace Go.Proofs.YtomnpfbebimpkaaGreatDoor
set_option maxRecDepth 20000
open Go.RowKit

/-- the change's box, the unit's room -/
def JuS (w0 : World) (m : Mm) (x : Um) (W : World) : Prop := Blk w0.heap.size (mca m) 40 W ∧ W.cell? ⟨x.p, 0, none⟩ = some (.int .i64 x.room)
theorem JuS.below {w0 W W' : World} {m : Mm} {x : Um} (hb : Below W.heap.size W W') (h : JuS w0 m x W) : JuS w0 m x W' := ⟨h.1.below hb, (hb.cell (p := ⟨x.p, 0, none⟩) (World.block_lt_of_cell? _ _ h.2)).trans h.2⟩
set_option maxHeartbeats 2000000 in
set_option maxRecDepth 100000 in
theorem un_jud_no (x : Um) (B k : Nat) (hF : FitM k x) (m : Mm) (hw : WfM m.u) (w0 : World) (h : UniA B x w0) (hi : InM m w0) (ht : Tab w0) (hz : 0 < w0.heap.size) (hfl : x.fail = false) (EE : Int) (hE : applyE x.un.view m.u bigI = EE) (h0 : EE ≠ 0) :
    Calls Tryz.prog 73 #[.pointer (some ⟨x.p, 0, none⟩), .agg (mca m)] w0 fun e w' => e = .returned (.int .i64 EE) ∧ Below w0.heap.size w0 w' := by
  have HF := Lib.hid hF
  have HWM := Lib.hid hw
  have HIM := Lib.hid hi
  have HVL := Lib.hid (show x.un.view.length ≤ 9000 by have := hF.fit.view_len; have := hF.n; omega)
  have HVW := Lib.hid hF.fit.view
  have HB0 := Lib.hid (below1 w0 (.cells (mca m) 40))
  have HE := Lib.hid (((Env.start ht hz).alloc (.cells (mca m) 40)).drew)
  have HU := Lib.hid (show UniA B x ((w0.alloc (.cells (mca m) 40)).drew) from h.below ((HB0.out.trans (Below.refl _ _)).drew))
  have HS0 := Lib.hid (show JuS w0 m x ((w0.alloc (.cells (mca m) 40)).drew) from ⟨Blk.new w0 (mca m) 40, HU.out.room_⟩)
  have c3 : (w0.alloc (.cells (mca m) 40)).cell? ⟨x.p, 3, none⟩ = some (.bool false) := by rw [← hfl]; exact (h.below HB0.out).fail_
  have HEE := Lib.hid hE
  have hne : (EE != 0) = true := by simpa using h0
  clear hE h0 hF hw hi ht h hfl HB0
  go_enter Tryz.func73, Tryz.ntmps73
  go_upto_region 4 with fail
  refine wp_region_held_drew (S := JuS w0 m x) (by kernel_rfl) HS0.out (fun hS => ?_)
  clear HS0 c3
  generalize (w0.alloc (.cells (mca m) 40)).drew = W at *
  refine seqRead 0 (v := _) rfl (by kernel_rfl) (by kernel_rfl) (by kernel_rfl) (fun _ _ _ h => h) rfl (fun w hSw => by go_simp <;> with_reducible rfl) hS ?_
  try simp only [Act.put, List.setIfInBounds_toArray, List.set_cons_zero, List.set_cons_succ]
  refine seqRead 2 (v := _) rfl (by kernel_rfl) (by kernel_rfl) (by kernel_rfl) (fun _ _ _ h => h) rfl (fun w hSw => (show (execOp _ _).run _ w = .ok (.value (.agg (mca m))) w from execRow0 rfl w0.heap.size rfl hSw.1 Tryz.underlying40 rfl infoMod)) hS ?_
  try simp only [Act.put, List.setIfInBounds_toArray, List.set_cons_zero, List.set_cons_succ]
  refine seqCall 1 rfl (by kernel_rfl) rfl (fun K hK => ?_)
  go_simp
  refine (un_view x B k HF.out W HU.out HE.out.tab HE.out.lt).mono ?_
  rintro e w1 ⟨vv, Lv, rfl, huv, hov, hw1⟩
  have HUV := Lib.hid huv
  have HOV := Lib.hid hov
  have HU1 := Lib.hid (HU.out.below hw1)
  have HE1 := Lib.hid (HE.out.below hw1)
  have HS1 := Lib.hid (JuS.below hw1 hS)
  have HAP := Lib.hid (apply_at vv Lv (by have := congrArg List.length HUV.out; rw [List.length_map] at this; have := HVL.out; omega) (HVW.out.rl HUV.out) m HWM.out bigI w1 HOV.out.lies (HIM.out.below (HE1.out.kept)) HE1.out.tab HE1.out.lt x.un.view HUV.out EE _ HEE.out rfl)
  refine hK.out _ _ HS1.out (fun hS => ?_)
  clear hK K huv hov hw1
  try simp only [Act.put, List.setIfInBounds_toArray, List.set_cons_zero, List.set_cons_succ]
  refine seqCall 3 rfl (by kernel_rfl) rfl (fun K hK => ?_)
  go_simp
  refine (HAP.out).mono ?_
  rintro e w2 ⟨v2, L2, rfl, hu2, hi2⟩
  have HU2 := Lib.hid (HU1.out.below hi2.2.2)
  have HE2 := Lib.hid (HE1.out.below hi2.2.2)
  have HS2 := Lib.hid (JuS.below hi2.2.2 HS1.out)
  refine hK.out _ _ HS2.out (fun hS => ?_)
  clear hK K hu2 hi2 HAP HU1 HE1 HS1 HOV HUV
  try simp only [Act.put, List.setIfInBounds_toArray, List.set_cons_zero, List.set_cons_succ]
  refine seqRead 4 (v := _) rfl (by kernel_rfl) (by kernel_rfl) (by kernel_rfl) (fun _ _ _ h => h) rfl (fun w hSw => by go_simp <;> with_reducible rfl) hS ?_
  try simp only [Act.put, List.setIfInBounds_toArray, List.set_cons_zero, List.set_cons_succ]
  refine seqRead 5 (v := _) rfl (by kernel_rfl) (by kernel_rfl) (by kernel_rfl) (fun _ _ _ h => h) rfl (fun w hSw => by go_simp <;> with_reducible rfl) hS ?_
  try simp only [Act.put, List.setIfInBounds_toArray, List.set_cons_zero, List.set_cons_succ]
  refine seqRead 6 (v := _) rfl (by kernel_rfl) (by kernel_rfl) (by kernel_rfl) (fun _ _ _ h => h) rfl (fun w hSw => by go_simp <;> with_reducible rfl) hS ?_
  try simp only [Act.put, List.setIfInBounds_toArray, List.set_cons_zero, List.set_cons_succ]
  refine seqRead 7 (v := _) rfl (by kernel_rfl) (by kernel_rfl) (by kernel_rfl) (fun _ _ _ h => h) rfl (fun w hSw => by go_simp <;> with_reducible rfl) hS ?_
  try simp only [Act.put, List.setIfInBounds_toArray, List.set_cons_zero, List.set_cons_succ]
  refine seqRead 8 (v := _) rfl (by kernel_rfl) (by kernel_rfl) (by kernel_rfl) (fun _ _ _ h => h) rfl (fun w hSw => by go_simp <;> with_reducible rfl) hS ?_
  try simp only [Act.put, List.setIfInBounds_toArray, List.set_cons_zero, List.set_cons_succ]
  refine seqDone (by kernel_rfl) ?_
  clear hS
  go_upto_region 7 with fail
  go_wp2_with fail
  go_ret
  exact ⟨rfl, HE2.out.kept⟩
set_option maxHeartbeats 2000000 in
set_option maxRecDepth 100000 in
theorem un_jud_oth (x : Um) (B k : Nat) (hF : FitM k x) (m : Mm) (hw : WfM m.u) (w0 : World) (h : UniA B x w0) (hi : InM m w0) (ht : Tab w0) (hz : 0 < w0.heap.size) (hfl : x.fail = false) (hE : applyE x.un.view m.u bigI = 0) (hk : m.u.kind ≠ 1) :
    Calls Tryz.prog 73 #[.pointer (some ⟨x.p, 0, none⟩), .agg (mca m)] w0 fun e w' => e = .returned (.int .i64 0) ∧ Below w0.heap.size w0 w' := by
  have HF := Lib.hid hF
  have HWM := Lib.hid hw
  have HIM := Lib.hid hi
  have HVL := Lib.hid (show x.un.view.length ≤ 9000 by have := hF.fit.view_len; have := hF.n; omega)
  have HVW := Lib.hid hF.fit.view
  have HB0 := Lib.hid (below1 w0 (.cells (mca m) 40))
  have HE := Lib.hid (((Env.start ht hz).alloc (.cells (mca m) 40)).drew)
  have HU := Lib.hid (show UniA B x ((w0.alloc (.cells (mca m) 40)).drew) from h.below ((HB0.out.trans (Below.refl _ _)).drew))
  have HS0 := Lib.hid (show JuS w0 m x ((w0.alloc (.cells (mca m) 40)).drew) from ⟨Blk.new w0 (mca m) 40, HU.out.room_⟩)
  have c3 : (w0.alloc (.cells (mca m) 40)).cell? ⟨x.p, 3, none⟩ = some (.bool false) := by rw [← hfl]; exact (h.below HB0.out).fail_
  obtain ⟨EE, hEE⟩ : ∃ EE : Int, EE = 0 := ⟨_, rfl⟩
  rw [← hEE] at hE
  have HEE := Lib.hid hE
  have hne : (EE != 0) = false := by rw [hEE]; rfl
  have hk' : (m.u.kind == 1) = false := by simpa using hk
  have HE0 := Lib.hid hEE
  clear hE hk hEE hF hw hi ht h hfl HB0
  go_enter Tryz.func73, Tryz.ntmps73
  go_upto_region 4 with fail
  refine wp_region_held_drew (S := JuS w0 m x) (by kernel_rfl) HS0.out (fun hS => ?_)
  clear HS0 c3
  generalize (w0.alloc (.cells (mca m) 40)).drew = W at *
  refine seqRead 0 (v := _) rfl (by kernel_rfl) (by kernel_rfl) (by kernel_rfl) (fun _ _ _ h => h) rfl (fun w hSw => by go_simp <;> with_reducible rfl) hS ?_
  try simp only [Act.put, List.setIfInBounds_toArray, List.set_cons_zero, List.set_cons_succ]
  refine seqRead 2 (v := _) rfl (by kernel_rfl) (by kernel_rfl) (by kernel_rfl) (fun _ _ _ h => h) rfl (fun w hSw => (show (execOp _ _).run _ w = .ok (.value (.agg (mca m))) w from execRow0 rfl w0.heap.size rfl hSw.1 Tryz.underlying40 rfl infoMod)) hS ?_
  try simp only [Act.put, List.setIfInBounds_toArray, List.set_cons_zero, List.set_cons_succ]
  refine seqCall 1 rfl (by kernel_rfl) rfl (fun K hK => ?_)
  go_simp
  refine (un_view x B k HF.out W HU.out HE.out.tab HE.out.lt).mono ?_
  rintro e w1 ⟨vv, Lv, rfl, huv, hov, hw1⟩
  have HUV := Lib.hid huv
  have HOV := Lib.hid hov
  have HU1 := Lib.hid (HU.out.below hw1)
  have HE1 := Lib.hid (HE.out.below hw1)
  have HS1 := Lib.hid (JuS.below hw1 hS)
  have HAP := Lib.hid (apply_at vv Lv (by have := congrArg List.length HUV.out; rw [List.length_map] at this; have := HVL.out; omega) (HVW.out.rl HUV.out) m HWM.out bigI w1 HOV.out.lies (HIM.out.below (HE1.out.kept)) HE1.out.tab HE1.out.lt x.un.view HUV.out EE _ HEE.out rfl)
  refine hK.out _ _ HS1.out (fun hS => ?_)
  clear hK K huv hov hw1
  try simp only [Act.put, List.setIfInBounds_toArray, List.set_cons_zero, List.set_cons_succ]
  refine seqCall 3 rfl (by kernel_rfl) rfl (fun K hK => ?_)
  go_simp
  refine (HAP.out).mono ?_
  rintro e w2 ⟨v2, L2, rfl, hu2, hi2⟩
  have HU2 := Lib.hid (HU1.out.below hi2.2.2)
  have HE2 := Lib.hid (HE1.out.below hi2.2.2)
  have HS2 := Lib.hid (JuS.below hi2.2.2 HS1.out)
  refine hK.out _ _ HS2.out (fun hS => ?_)
  clear hK K hu2 hi2 HAP HU1 HE1 HS1 HOV HUV
  try simp only [Act.put, List.setIfInBounds_toArray, List.set_cons_zero, List.set_cons_succ]
  refine seqRead 4 (v := _) rfl (by kernel_rfl) (by kernel_rfl) (by kernel_rfl) (fun _ _ _ h => h) rfl (fun w hSw => by go_simp <;> with_reducible rfl) hS ?_
  try simp only [Act.put, List.setIfInBounds_toArray, List.set_cons_zero, List.set_cons_succ]
  refine seqRead 5 (v := _) rfl (by kernel_rfl) (by kernel_rfl) (by kernel_rfl) (fun _ _ _ h => h) rfl (fun w hSw => by go_simp <;> with_reducible rfl) hS ?_
  try simp only [Act.put, List.setIfInBounds_toArray, List.set_cons_zero, List.set_cons_succ]
  refine seqRead 6 (v := _) rfl (by kernel_rfl) (by kernel_rfl) (by kernel_rfl) (fun _ _ _ h => h) rfl (fun w hSw => by go_simp <;> with_reducible rfl) hS ?_
  try simp only [Act.put, List.setIfInBounds_toArray, List.set_cons_zero, List.set_cons_succ]
  refine seqRead 7 (v := _) rfl (by kernel_rfl) (by kernel_rfl) (by kernel_rfl) (fun _ _ _ h => h) rfl (fun w hSw => by go_simp <;> with_reducible rfl) hS ?_
  try simp only [Act.put, List.setIfInBounds_toArray, List.set_cons_zero, List.set_cons_succ]
  refine seqRead 8 (v := _) rfl (by kernel_rfl) (by kernel_rfl) (by kernel_rfl) (fun _ _ _ h => h) rfl (fun w hSw => by go_simp <;> with_reducible rfl) hS ?_
  try simp only [Act.put, List.setIfInBounds_toArray, List.set_cons_zero, List.set_cons_succ]
  refine seqDone (by kernel_rfl) ?_
  clear hS
  go_upto_region 7 with fail
  refine wp_region_held_drew (S := JuS w0 m x) (by kernel_rfl) (JuS.below (Below.refl _ _).drew HS2.out) (fun hS => ?_)
  have HB2 := Lib.hid (HE2.out.kept.drew)
  clear HS2 HU2 HE2
  generalize w2.drew = W2 at *
  refine seqRead 0 (v := _) rfl (by kernel_rfl) (by kernel_rfl) (by kernel_rfl) (fun _ _ _ h => h) rfl (fun w hSw => by go_simp <;> with_reducible rfl) hS ?_
  try simp only [Act.put, List.setIfInBounds_toArray, List.set_cons_zero, List.set_cons_succ]
  refine seqRead 1 (v := _) rfl (by kernel_rfl) (by kernel_rfl) (by kernel_rfl) (fun _ _ _ h => h) rfl (fun w hSw => (by have hc := hSw.1.cellsM.1; go_simp <;> with_reducible rfl)) hS ?_
  try simp only [Act.put, List.setIfInBounds_toArray, List.set_cons_zero, List.set_cons_succ]
  refine seqRead 2 (v := _) rfl (by kernel_rfl) (by kernel_rfl) (by kernel_rfl) (fun _ _ _ h => h) rfl (fun w hSw => by go_simp <;> with_reducible rfl) hS ?_
  try simp only [Act.put, List.setIfInBounds_toArray, List.set_cons_zero, List.set_cons_succ]
  refine seqRead 3 (v := _) rfl (by kernel_rfl) (by kernel_rfl) (by kernel_rfl) (fun _ _ _ h => h) rfl (fun w hSw => by go_simp <;> with_reducible rfl) hS ?_
  try simp only [Act.put, List.setIfInBounds_toArray, List.set_cons_zero, List.set_cons_succ]
  refine seqSkip 4 rfl (by kernel_rfl) (by kernel_rfl) (by kernel_rfl) (fun _ _ _ h => h) rfl hS ?_
  try simp only [Act.put, List.setIfInBounds_toArray, List.set_cons_zero, List.set_cons_succ]
  refine seqSkip 5 rfl (by kernel_rfl) (by kernel_rfl) (by kernel_rfl) (fun _ _ _ h => h) rfl hS ?_
  try simp only [Act.put, List.setIfInBounds_toArray, List.set_cons_zero, List.set_cons_succ]
  refine seqSkip 6 rfl (by kernel_rfl) (by kernel_rfl) (by kernel_rfl) (fun _ _ _ h => h) rfl hS ?_
  try simp only [Act.put, List.setIfInBounds_toArray, List.set_cons_zero, List.set_cons_succ]
  refine seqSkip 7 rfl (by kernel_rfl) (by kernel_rfl) (by kernel_rfl) (fun _ _ _ h => h) rfl hS ?_
  try simp only [Act.put, List.setIfInBounds_toArray, List.set_cons_zero, List.set_cons_succ]
  refine seqSkip 8 rfl (by kernel_rfl) (by kernel_rfl) (by kernel_rfl) (fun _ _ _ h => h) rfl hS ?_
  try simp only [Act.put, List.setIfInBounds_toArray, List.set_cons_zero, List.set_cons_succ]
  refine seqSkip 9 rfl (by kernel_rfl) (by kernel_rfl) (by kernel_rfl) (fun _ _ _ h => h) rfl hS ?_
  try simp only [Act.put, List.setIfInBounds_toArray, List.set_cons_zero, List.set_cons_succ]
  refine seqSkip 10 rfl (by kernel_rfl) (by kernel_rfl) (by kernel_rfl) (fun _ _ _ h => h) rfl hS ?_
  try simp only [Act.put, List.setIfInBounds_toArray, List.set_cons_zero, List.set_cons_succ]
  refine seqSkip 11 rfl (by kernel_rfl) (by kernel_rfl) (by kernel_rfl) (fun _ _ _ h => h) rfl hS ?_
  try simp only [Act.put, List.setIfInBounds_toArray, List.set_cons_zero, List.set_cons_succ]
  refine seqRead 12 (v := _) rfl (by kernel_rfl) (by kernel_rfl) (by kernel_rfl) (fun _ _ _ h => h) rfl (fun w hSw => by go_simp <;> with_reducible rfl) hS ?_
  try simp only [Act.put, List.setIfInBounds_toArray, List.set_cons_zero, List.set_cons_succ]
  refine seqDone (by kernel_rfl) ?_
  clear hS
  go_wp2_with fail
  go_ret
  exact ⟨rfl, HB2.out⟩
set_option maxHeartbeats 2000000 in
set_option maxRecDepth 100000 in
theorem un_jud_add (x : Um) (B k : Nat) (hF : FitM k x) (m : Mm) (hw : WfM m.u) (w0 : World) (h : UniA B x w0) (hi : InM m w0) (ht : Tab w0) (hz : 0 < w0.heap.size) (hfl : x.fail = false) (hE : applyE x.un.view m.u bigI = 0) (hk : m.u.kind = 1) :
    Calls Tryz.prog 73 #[.pointer (some ⟨x.p, 0, none⟩), .agg (mca m)] w0 fun e w' => e = .returned (.int .i64 (if x.room < ((keysU x.un.base (chgO x.un.opn ++ [m.u])).length : Int) then 3 else 0)) ∧ Below w0.heap.size w0 w' := by
  have HF := Lib.hid hF
  have HWM := Lib.hid hw
  have HIM := Lib.hid hi
  have HVL := Lib.hid (show x.un.view.length ≤ 9000 by have := hF.fit.view_len; have := hF.n; omega)
  have HVW := Lib.hid hF.fit.view
  have HB0 := Lib.hid (below1 w0 (.cells (mca m) 40))
  have HE := Lib.hid (((Env.start ht hz).alloc (.cells (mca m) 40)).drew)
  have HU := Lib.hid (show UniA B x ((w0.alloc (.cells (mca m) 40)).drew) from h.below ((HB0.out.trans (Below.refl _ _)).drew))
  have HS0 := Lib.hid (show JuS w0 m x ((w0.alloc (.cells (mca m) 40)).drew) from ⟨Blk.new w0 (mca m) 40, HU.out.room_⟩)
  have c3 : (w0.alloc (.cells (mca m) 40)).cell? ⟨x.p, 3, none⟩ = some (.bool false) := by rw [← hfl]; exact (h.below HB0.out).fail_
  obtain ⟨EE, hEE⟩ : ∃ EE : Int, EE = 0 := ⟨_, rfl⟩
  rw [← hEE] at hE
  have HEE := Lib.hid hE
  have hne : (EE != 0) = false := by rw [hEE]; rfl
  have hk' : (m.u.kind == 1) = true := by simpa using hk
  obtain ⟨kn, hkn⟩ : ∃ kn : Int, kn = ((keysU x.un.base (chgO x.un.opn ++ [m.u])).length : Int) := ⟨_, rfl⟩
  have HKK := Lib.hid hkn
  rw [← hkn]
  clear hkn
  by_cases hgt : x.room < kn
  · rw [if_pos hgt]
    have hgd : decide (x.room < kn) = true := decide_eq_true hgt
    have hgd2 : decide (kn > x.room) = true := decide_eq_true hgt
    clear hE hk hEE hF hw hi ht h hfl HB0
    go_enter Tryz.func73, Tryz.ntmps73
    go_upto_region 4 with fail
    refine wp_region_held_drew (S := JuS w0 m x) (by kernel_rfl) HS0.out (fun hS => ?_)
    clear HS0 c3
    generalize (w0.alloc (.cells (mca m) 40)).drew = W at *
    refine seqRead 0 (v := _) rfl (by kernel_rfl) (by kernel_rfl) (by kernel_rfl) (fun _ _ _ h => h) rfl (fun w hSw => by go_simp <;> with_reducible rfl) hS ?_
    try simp only [Act.put, List.setIfInBounds_toArray, List.set_cons_zero, List.set_cons_succ]
    refine seqRead 2 (v := _) rfl (by kernel_rfl) (by kernel_rfl) (by kernel_rfl) (fun _ _ _ h => h) rfl (fun w hSw => (show (execOp _ _).run _ w = .ok (.value (.agg (mca m))) w from execRow0 rfl w0.heap.size rfl hSw.1 Tryz.underlying40 rfl infoMod)) hS ?_
    try simp only [Act.put, List.setIfInBounds_toArray, List.set_cons_zero, List.set_cons_succ]
    refine seqCall 1 rfl (by kernel_rfl) rfl (fun K hK => ?_)
    go_simp
    refine (un_view x B k HF.out W HU.out HE.out.tab HE.out.lt).mono ?_
    rintro e w1 ⟨vv, Lv, rfl, huv, hov, hw1⟩
    have HUV := Lib.hid huv
    have HOV := Lib.hid hov
    have HU1 := Lib.hid (HU.out.below hw1)
    have HE1 := Lib.hid (HE.out.below hw1)
    have HS1 := Lib.hid (JuS.below hw1 hS)
    have HAP := Lib.hid (apply_at vv Lv (by have := congrArg List.length HUV.out; rw [List.length_map] at this; have := HVL.out; omega) (HVW.out.rl HUV.out) m HWM.out bigI w1 HOV.out.lies (HIM.out.below (HE1.out.kept)) HE1.out.tab HE1.out.lt x.un.view HUV.out EE _ HEE.out rfl)
    refine hK.out _ _ HS1.out (fun hS => ?_)
    clear hK K huv hov hw1
    try simp only [Act.put, List.setIfInBounds_toArray, List.set_cons_zero, List.set_cons_succ]
    refine seqCall 3 rfl (by kernel_rfl) rfl (fun K hK => ?_)
    go_simp
    refine (HAP.out).mono ?_
    rintro e w2 ⟨v2, L2, rfl, hu2, hi2⟩
    have HU2 := Lib.hid (HU1.out.below hi2.2.2)
    have HE2 := Lib.hid (HE1.out.below hi2.2.2)
    have HS2 := Lib.hid (JuS.below hi2.2.2 HS1.out)
    refine hK.out _ _ HS2.out (fun hS => ?_)
    clear hK K hu2 hi2 HAP HU1 HE1 HS1 HOV HUV
    try simp only [Act.put, List.setIfInBounds_toArray, List.set_cons_zero, List.set_cons_succ]
    refine seqRead 4 (v := _) rfl (by kernel_rfl) (by kernel_rfl) (by kernel_rfl) (fun _ _ _ h => h) rfl (fun w hSw => by go_simp <;> with_reducible rfl) hS ?_
    try simp only [Act.put, List.setIfInBounds_toArray, List.set_cons_zero, List.set_cons_succ]
    refine seqRead 5 (v := _) rfl (by kernel_rfl) (by kernel_rfl) (by kernel_rfl) (fun _ _ _ h => h) rfl (fun w hSw => by go_simp <;> with_reducible rfl) hS ?_
    try simp only [Act.put, List.setIfInBounds_toArray, List.set_cons_zero, List.set_cons_succ]
    refine seqRead 6 (v := _) rfl (by kernel_rfl) (by kernel_rfl) (by kernel_rfl) (fun _ _ _ h => h) rfl (fun w hSw => by go_simp <;> with_reducible rfl) hS ?_
    try simp only [Act.put, List.setIfInBounds_toArray, List.set_cons_zero, List.set_cons_succ]
    refine seqRead 7 (v := _) rfl (by kernel_rfl) (by kernel_rfl) (by kernel_rfl) (fun _ _ _ h => h) rfl (fun w hSw => by go_simp <;> with_reducible rfl) hS ?_
    try simp only [Act.put, List.setIfInBounds_toArray, List.set_cons_zero, List.set_cons_succ]
    refine seqRead 8 (v := _) rfl (by kernel_rfl) (by kernel_rfl) (by kernel_rfl) (fun _ _ _ h => h) rfl (fun w hSw => by go_simp <;> with_reducible rfl) hS ?_
    try simp only [Act.put, List.setIfInBounds_toArray, List.set_cons_zero, List.set_cons_succ]
    refine seqDone (by kernel_rfl) ?_
    clear hS
    go_upto_region 7 with fail
    refine wp_region_held_drew (S := JuS w0 m x) (by kernel_rfl) (JuS.below (Below.refl _ _).drew HS2.out) (fun hS => ?_)
    have HU3 := Lib.hid (HU2.out.below (Below.refl _ _).drew)
    have HE3 := Lib.hid (HE2.out.drew)
    clear HS2 HU2 HE2
    have HE2 := HE3
    clear HE3
    generalize w2.drew = W2 at *
    refine seqRead 0 (v := _) rfl (by kernel_rfl) (by kernel_rfl) (by kernel_rfl) (fun _ _ _ h => h) rfl (fun w hSw => by go_simp <;> with_reducible rfl) hS ?_
    try simp only [Act.put, List.setIfInBounds_toArray, List.set_cons_zero, List.set_cons_succ]
    refine seqRead 1 (v := _) rfl (by kernel_rfl) (by kernel_rfl) (by kernel_rfl) (fun _ _ _ h => h) rfl (fun w hSw => (by have hc := hSw.1.cellsM.1; go_simp <;> with_reducible rfl)) hS ?_
    try simp only [Act.put, List.setIfInBounds_toArray, List.set_cons_zero, List.set_cons_succ]
    refine seqRead 2 (v := _) rfl (by kernel_rfl) (by kernel_rfl) (by kernel_rfl) (fun _ _ _ h => h) rfl (fun w hSw => by go_simp <;> with_reducible rfl) hS ?_
    try simp only [Act.put, List.setIfInBounds_toArray, List.set_cons_zero, List.set_cons_succ]
    refine seqRead 3 (v := _) rfl (by kernel_rfl) (by kernel_rfl) (by kernel_rfl) (fun _ _ _ h => h) rfl (fun w hSw => by go_simp <;> with_reducible rfl) hS ?_
    try simp only [Act.put, List.setIfInBounds_toArray, List.set_cons_zero, List.set_cons_succ]
    refine seqRead 4 (v := _) rfl (by kernel_rfl) (by kernel_rfl) (by kernel_rfl) (fun _ _ _ h => h) rfl (fun w hSw => by go_simp <;> with_reducible rfl) hS ?_
    try simp only [Act.put, List.setIfInBounds_toArray, List.set_cons_zero, List.set_cons_succ]
    refine seqRead 5 (v := _) rfl (by kernel_rfl) (by kernel_rfl) (by kernel_rfl) (fun _ _ _ h => h) rfl (fun w hSw => (show (execOp _ _).run _ w = .ok (.value (.agg (mca m))) w from execRow0 rfl w0.heap.size rfl hSw.1 Tryz.underlying40 rfl infoMod)) hS ?_
    try simp only [Act.put, List.setIfInBounds_toArray, List.set_cons_zero, List.set_cons_succ]
    refine seqRead 7 (v := _) rfl (by kernel_rfl) (by kernel_rfl) (by kernel_rfl) (fun _ _ _ h => h) rfl (fun w hSw => by go_simp <;> with_reducible rfl) hS ?_
    try simp only [Act.put, List.setIfInBounds_toArray, List.set_cons_zero, List.set_cons_succ]
    refine seqRead 8 (v := _) rfl (by kernel_rfl) (by kernel_rfl) (by kernel_rfl) (fun _ _ _ h => h) rfl (fun w hSw => by go_simp <;> with_reducible rfl) hS ?_
    try simp only [Act.put, List.setIfInBounds_toArray, List.set_cons_zero, List.set_cons_succ]
    refine seqRead 9 (v := _) rfl (by kernel_rfl) (by kernel_rfl) (by kernel_rfl) (fun _ _ _ h => h) rfl (fun w hSw => by go_simp <;> with_reducible rfl) hS ?_
    try simp only [Act.put, List.setIfInBounds_toArray, List.set_cons_zero, List.set_cons_succ]
    refine seqRead 10 (v := _) rfl (by kernel_rfl) (by kernel_rfl) (by kernel_rfl) (fun _ _ _ h => h) rfl (fun w hSw => (by have hc := hSw.2; go_simp <;> with_reducible rfl)) hS ?_
    try simp only [Act.put, List.setIfInBounds_toArray, List.set_cons_zero, List.set_cons_succ]
    refine seqCall 6 rfl (by kernel_rfl) rfl (fun K hK => ?_)
    go_simp
    refine (un_keys x B k HF.out m W2 HU3.out).mono ?_
    rintro e w3 ⟨rfl, hw3⟩
    have HE3 := Lib.hid (HE2.out.below hw3)
    have HS3 := Lib.hid (JuS.below hw3 hS)
    rw [← HKK.out]
    refine hK.out _ _ HS3.out (fun hS => ?_)
    clear hK K hw3
    try simp only [Act.put, List.setIfInBounds_toArray, List.set_cons_zero, List.set_cons_succ]
    refine seqRead 11 (v := _) rfl (by kernel_rfl) (by kernel_rfl) (by kernel_rfl) (fun _ _ _ h => h) rfl (fun w hSw => by go_simp <;> with_reducible rfl) hS ?_
    try simp only [Act.put, List.setIfInBounds_toArray, List.set_cons_zero, List.set_cons_succ]
    refine seqRead 12 (v := _) rfl (by kernel_rfl) (by kernel_rfl) (by kernel_rfl) (fun _ _ _ h => h) rfl (fun w hSw => by go_simp <;> with_reducible rfl) hS ?_
    try simp only [Act.put, List.setIfInBounds_toArray, List.set_cons_zero, List.set_cons_succ]
    refine seqDone (by kernel_rfl) ?_
    clear hS
    go_wp2_with fail
    go_ret
    exact ⟨rfl, HE3.out.kept⟩
  · rw [if_neg hgt]
    have hgd : decide (x.room < kn) = false := decide_eq_false hgt
    have hgd2 : decide (kn > x.room) = false := decide_eq_false hgt
    clear hE hk hEE hF hw hi ht h hfl HB0
    go_enter Tryz.func73, Tryz.ntmps73
    go_upto_region 4 with fail
    refine wp_region_held_drew (S := JuS w0 m x) (by kernel_rfl) HS0.out (fun hS => ?_)
    clear HS0 c3
    generalize (w0.alloc (.cells (mca m) 40)).drew = W at *
    refine seqRead 0 (v := _) rfl (by kernel_rfl) (by kernel_rfl) (by kernel_rfl) (fun _ _ _ h => h) rfl (fun w hSw => by go_simp <;> with_reducible rfl) hS ?_
    try simp only [Act.put, List.setIfInBounds_toArray, List.set_cons_zero, List.set_cons_succ]
    refine seqRead 2 (v := _) rfl (by kernel_rfl) (by kernel_rfl) (by kernel_rfl) (fun _ _ _ h => h) rfl (fun w hSw => (show (execOp _ _).run _ w = .ok (.value (.agg (mca m))) w from execRow0 rfl w0.heap.size rfl hSw.1 Tryz.underlying40 rfl infoMod)) hS ?_
    try simp only [Act.put, List.setIfInBounds_toArray, List.set_cons_zero, List.set_cons_succ]
    refine seqCall 1 rfl (by kernel_rfl) rfl (fun K hK => ?_)
    go_simp
    refine (un_view x B k HF.out W HU.out HE.out.tab HE.out.lt).mono ?_
    rintro e w1 ⟨vv, Lv, rfl, huv, hov, hw1⟩
    have HUV := Lib.hid huv
    have HOV := Lib.hid hov
    have HU1 := Lib.hid (HU.out.below hw1)
    have HE1 := Lib.hid (HE.out.below hw1)
    have HS1 := Lib.hid (JuS.below hw1 hS)
    have HAP := Lib.hid (apply_at vv Lv (by have := congrArg List.length HUV.out; rw [List.length_map] at this; have := HVL.out; omega) (HVW.out.rl HUV.out) m HWM.out bigI w1 HOV.out.lies (HIM.out.below (HE1.out.kept)) HE1.out.tab HE1.out.lt x.un.view HUV.out EE _ HEE.out rfl)
    refine hK.out _ _ HS1.out (fun hS => ?_)
    clear hK K huv hov hw1
    try simp only [Act.put, List.setIfInBounds_toArray, List.set_cons_zero, List.set_cons_succ]
    refine seqCall 3 rfl (by kernel_rfl) rfl (fun K hK => ?_)
    go_simp
    refine (HAP.out).mono ?_
    rintro e w2 ⟨v2, L2, rfl, hu2, hi2⟩
    have HU2 := Lib.hid (HU1.out.below hi2.2.2)
    have HE2 := Lib.hid (HE1.out.below hi2.2.2)
    have HS2 := Lib.hid (JuS.below hi2.2.2 HS1.out)
    refine hK.out _ _ HS2.out (fun hS => ?_)
    clear hK K hu2 hi2 HAP HU1 HE1 HS1 HOV HUV
    try simp only [Act.put, List.setIfInBounds_toArray, List.set_cons_zero, List.set_cons_succ]
    refine seqRead 4 (v := _) rfl (by kernel_rfl) (by kernel_rfl) (by kernel_rfl) (fun _ _ _ h => h) rfl (fun w hSw => by go_simp <;> with_reducible rfl) hS ?_
    try simp only [Act.put, List.setIfInBounds_toArray, List.set_cons_zero, List.set_cons_succ]
    refine seqRead 5 (v := _) rfl (by kernel_rfl) (by kernel_rfl) (by kernel_rfl) (fun _ _ _ h => h) rfl (fun w hSw => by go_simp <;> with_reducible rfl) hS ?_
    try simp only [Act.put, List.setIfInBounds_toArray, List.set_cons_zero, List.set_cons_succ]
    refine seqRead 6 (v := _) rfl (by kernel_rfl) (by kernel_rfl) (by kernel_rfl) (fun _ _ _ h => h) rfl (fun w hSw => by go_simp <;> with_reducible rfl) hS ?_
    try simp only [Act.put, List.setIfInBounds_toArray, List.set_cons_zero, List.set_cons_succ]
    refine seqRead 7 (v := _) rfl (by kernel_rfl) (by kernel_rfl) (by kernel_rfl) (fun _ _ _ h => h) rfl (fun w hSw => by go_simp <;> with_reducible rfl) hS ?_
    try simp only [Act.put, List.setIfInBounds_toArray, List.set_cons_zero, List.set_cons_succ]
    refine seqRead 8 (v := _) rfl (by kernel_rfl) (by kernel_rfl) (by kernel_rfl) (fun _ _ _ h => h) rfl (fun w hSw => by go_simp <;> with_reducible rfl) hS ?_
    try simp only [Act.put, List.setIfInBounds_toArray, List.set_cons_zero, List.set_cons_succ]
    refine seqDone (by kernel_rfl) ?_
    clear hS
    go_upto_region 7 with fail
    refine wp_region_held_drew (S := JuS w0 m x) (by kernel_rfl) (JuS.below (Below.refl _ _).drew HS2.out) (fun hS => ?_)
    have HU3 := Lib.hid (HU2.out.below (Below.refl _ _).drew)
    have HE3 := Lib.hid (HE2.out.drew)
    clear HS2 HU2 HE2
    have HE2 := HE3
    clear HE3
    generalize w2.drew = W2 at *
    refine seqRead 0 (v := _) rfl (by kernel_rfl) (by kernel_rfl) (by kernel_rfl) (fun _ _ _ h => h) rfl (fun w hSw => by go_simp <;> with_reducible rfl) hS ?_
    try simp only [Act.put, List.setIfInBounds_toArray, List.set_cons_zero, List.set_cons_succ]
    refine seqRead 1 (v := _) rfl (by kernel_rfl) (by kernel_rfl) (by kernel_rfl) (fun _ _ _ h => h) rfl (fun w hSw => (by have hc := hSw.1.cellsM.1; go_simp <;> with_reducible rfl)) hS ?_
    try simp only [Act.put, List.setIfInBounds_toArray, List.set_cons_zero, List.set_cons_succ]
    refine seqRead 2 (v := _) rfl (by kernel_rfl) (by kernel_rfl) (by kernel_rfl) (fun _ _ _ h => h) rfl (fun w hSw => by go_simp <;> with_reducible rfl) hS ?_
    try simp only [Act.put, List.setIfInBounds_toArray, List.set_cons_zero, List.set_cons_succ]
    refine seqRead 3 (v := _) rfl (by kernel_rfl) (by kernel_rfl) (by kernel_rfl) (fun _ _ _ h => h) rfl (fun w hSw => by go_simp <;> with_reducible rfl) hS ?_
    try simp only [Act.put, List.setIfInBounds_toArray, List.set_cons_zero, List.set_cons_succ]
    refine seqRead 4 (v := _) rfl (by kernel_rfl) (by kernel_rfl) (by kernel_rfl) (fun _ _ _ h => h) rfl (fun w hSw => by go_simp <;> with_reducible rfl) hS ?_
    try simp only [Act.put, List.setIfInBounds_toArray, List.set_cons_zero, List.set_cons_succ]
    refine seqRead 5 (v := _) rfl (by kernel_rfl) (by kernel_rfl) (by kernel_rfl) (fun _ _ _ h => h) rfl (fun w hSw => (show (execOp _ _).run _ w = .ok (.value (.agg (mca m))) w from execRow0 rfl w0.heap.size rfl hSw.1 Tryz.underlying40 rfl infoMod)) hS ?_
    try simp only [Act.put, List.setIfInBounds_toArray, List.set_cons_zero, List.set_cons_succ]
    refine seqRead 7 (v := _) rfl (by kernel_rfl) (by kernel_rfl) (by kernel_rfl) (fun _ _ _ h => h) rfl (fun w hSw => by go_simp <;> with_reducible rfl) hS ?_
    try simp only [Act.put, List.setIfInBounds_toArray, List.set_cons_zero, List.set_cons_succ]
    refine seqRead 8 (v := _) rfl (by kernel_rfl) (by kernel_rfl) (by kernel_rfl) (fun _ _ _ h => h) rfl (fun w hSw => by go_simp <;> with_reducible rfl) hS ?_
    try simp only [Act.put, List.setIfInBounds_toArray, List.set_cons_zero, List.set_cons_succ]
    refine seqRead 9 (v := _) rfl (by kernel_rfl) (by kernel_rfl) (by kernel_rfl) (fun _ _ _ h => h) rfl (fun w hSw => by go_simp <;> with_reducible rfl) hS ?_
    try simp only [Act.put, List.setIfInBounds_toArray, List.set_cons_zero, List.set_cons_succ]
    refine seqRead 10 (v := _) rfl (by kernel_rfl) (by kernel_rfl) (by kernel_rfl) (fun _ _ _ h => h) rfl (fun w hSw => (by have hc := hSw.2; go_simp <;> with_reducible rfl)) hS ?_
    try simp only [Act.put, List.setIfInBounds_toArray, List.set_cons_zero, List.set_cons_succ]
    refine seqCall 6 rfl (by kernel_rfl) rfl (fun K hK => ?_)
    go_simp
    refine (un_keys x B k HF.out m W2 HU3.out).mono ?_
    rintro e w3 ⟨rfl, hw3⟩
    have HE3 := Lib.hid (HE2.out.below hw3)
    have HS3 := Lib.hid (JuS.below hw3 hS)
    rw [← HKK.out]
    refine hK.out _ _ HS3.out (fun hS => ?_)
    clear hK K hw3
    try simp only [Act.put, List.setIfInBounds_toArray, List.set_cons_zero, List.set_cons_succ]
    refine seqRead 11 (v := _) rfl (by kernel_rfl) (by kernel_rfl) (by kernel_rfl) (fun _ _ _ h => h) rfl (fun w hSw => by go_simp <;> with_reducible rfl) hS ?_
    try simp only [Act.put, List.setIfInBounds_toArray, List.set_cons_zero, List.set_cons_succ]
    refine seqRead 12 (v := _) rfl (by kernel_rfl) (by kernel_rfl) (by kernel_rfl) (fun _ _ _ h => h) rfl (fun w hSw => by go_simp <;> with_reducible rfl) hS ?_
    try simp only [Act.put, List.setIfInBounds_toArray, List.set_cons_zero, List.set_cons_succ]
    refine seqDone (by kernel_rfl) ?_
    clear hS
    go_wp2_with fail
    go_ret
    exact ⟨rfl, HE3.out.kept⟩
theorem judE_add {room : Int} {us : List Ru} {o : List Tx} {m : Mu} (h0 : applyE (viewO us o) m bigI = 0) (hk : m.kind = 1) : judE room us o m = if room < ((keysU us (chgO o ++ [m])).length : Int) then 3 else 0 := by
  unfold judE
  rw [h0, if_neg (by decide)]
  by_cases hg : room < ((keysU us (chgO o ++ [m])).length : Int)
  · rw [if_pos hg, if_pos ⟨hk, hg⟩]
  · rw [if_neg hg, if_neg fun q => hg q.2]
theorem judE_oth {room : Int} {us : List Ru} {o : List Tx} {m : Mu} (h0 : applyE (viewO us o) m bigI = 0) (hk : m.kind ≠ 1) : judE room us o m = 0 := by
  unfold judE
  rw [h0, if_neg (by decide), if_neg fun q => hk q.1]
theorem judE_no {room : Int} {us : List Ru} {o : List Tx} {m : Mu} (h0 : applyE (viewO us o) m bigI ≠ 0) : judE room us o m = applyE (viewO us o) m bigI := by
  unfold judE
  rw [if_pos h0]
/-- what fault gives -/
def JudRet (x : Um) (B : Nat) (m : Mm) (w : World) (e : Ending) (w' : World) : Prop :=
  e = .returned (.int .i64 (if x.fail then 16 else judE x.room x.un.base x.un.opn m.u)) ∧ UniA B ⟨x.p, x.room, x.vb, x.L, x.vo, x.ts, false⟩ w' ∧ UFr x ⟨x.p, x.room, x.vb, x.L, x.vo, x.ts, false⟩ w w'
theorem infoBool : (Tryz.prog.info? 4).map (·.size) = some 1 := by kernel_rfl
theorem un_fault (x : Um) (B k : Nat) (hF : FitM k x) (m : Mm) (hw : WfM m.u) (w0 : World) (h : UniA B x w0) (hi : InM m w0) (ht : Tab w0) (hz : 0 < w0.heap.size) :
    Calls Tryz.prog 73 #[.pointer (some ⟨x.p, 0, none⟩), .agg (mca m)] w0 (JudRet x B m w0) := by
  cases hfl : x.fail
  · have hx : x = ⟨x.p, x.room, x.vb, x.L, x.vo, x.ts, false⟩ := by rw [← hfl]
    have key : ∀ e w', (e = .returned (.int .i64 (judE x.room x.un.base x.un.opn m.u)) ∧ Below w0.heap.size w0 w') → JudRet x B m w0 e w' := fun e w' ⟨e1, hb⟩ => by
      refine ⟨by rw [hfl]; exact e1, ?_, ?_⟩
      · rw [← hx]; exact h.below hb
      · rw [← hx]; exact UFr.of x hb
    by_cases h0 : applyE x.un.view m.u bigI = 0
    · by_cases hk : m.u.kind = 1
      · exact (un_jud_add x B k hF m hw w0 h hi ht hz hfl h0 hk).mono fun e w' hr => key e w' ⟨by rw [judE_add h0 hk]; exact hr.1, hr.2⟩
      · exact (un_jud_oth x B k hF m hw w0 h hi ht hz hfl h0 hk).mono fun e w' hr => key e w' ⟨by rw [judE_oth h0 hk]; exact hr.1, hr.2⟩
    · exact (un_jud_no x B k hF m hw w0 h hi ht hz hfl _ rfl h0).mono fun e w' hr => key e w' ⟨by rw [judE_no h0]; exact hr.1, hr.2⟩
  · have HB0 := Lib.hid (below1 w0 (.cells (mca m) 40))
    have HU0 := Lib.hid (h.below HB0.out)
    have c3 : (w0.alloc (.cells (mca m) 40)).cell? ⟨x.p, 3, none⟩ = some (.bool true) := by rw [← hfl]; exact HU0.out.fail_
    have HTH := Lib.hid (show (w0.alloc (.cells (mca m) 40)).there x.p 3 1 from HU0.out.box.there (by show 4 ≤ 4; decide))
    have HFL := Lib.hid hfl
    clear h hi ht hfl hF hw
    go_enter Tryz.func73, Tryz.ntmps73
    go_wp2_with (refine storeCell rfl 4 _ _ rfl x.p 3 (.bool false) rfl rfl rfl HTH.out infoBool ?_; refine Hid.out ?_)
    have HFW := Lib.hid (Fr.cell (w0.alloc (.cells (mca m) 40)) ⟨x.p, 3, none⟩ (.bool false) (M := [x.p]) (by simp))
    have HX := Lib.hid (show UniA B ⟨x.p, x.room, x.vb, x.L, x.vo, x.ts, false⟩ ((w0.alloc (.cells (mca m) 40)).setCell ⟨x.p, 3, none⟩ (.bool false)) from
      UniA.wrote (p := x.p) HU0.out.boxU rfl (HU0.out.box.one (k := 3) (.bool false)) HFW.out HU0.out.base HU0.out.opn HU0.out.txs HU0.out.nod)
    have HUF := Lib.hid (show UFr x ⟨x.p, x.room, x.vb, x.L, x.vo, x.ts, false⟩ w0 ((w0.alloc (.cells (mca m) 40)).setCell ⟨x.p, 3, none⟩ (.bool false)) from
      ⟨(Fr.of HB0.out).tr (HFW.out.mono fun g hg => .inl (by
        simp only [List.mem_cons, List.not_mem_nil, or_false] at hg
        subst hg
        simp [Um.muts])), fun g hg => .inl hg⟩)
    clear HTH HFW HU0 c3 HB0
    generalize (w0.alloc (.cells (mca m) 40)).setCell ⟨x.p, 3, none⟩ (.bool false) = w1 at *
    refine Lib.hid ?_
    go_wp2_with fail
    go_ret
    exact ⟨by rw [HFL.out]; rfl, HX.out, HUF.out⟩
end Go.Proofs.YtomnpfbebimpkaaGreatDoor

/-
  change: a change of a transaction, taken or refused.
-/
namespace Go.Proofs.YtomnpfbebimpkaaGreatDoor
set_option maxRecDepth 20000
open Go.RowKit

theorem mca_acts (m : Mm) (q : Option Addr) (n c : Nat) : (mca m).setIfInBounds 26 (.slice q n c) = mca ⟨m.u, q, n, c⟩ := by
  apply Array.ext'
  simp only [mca, mcl, Array.toList_setIfInBounds]
  rw [show (26 : Nat) = 25 + 1 from rfl, List.set_cons_succ, List.set_append_right _ _ (by simp [cl])]
  simp [cl, mtl]
theorem mutsT_split {ts : List Tm} {i : Nat} {t : Tm} (h : ts[i]? = some t) : mutsT ts = mutsT (ts.take i) ++ (t.mut ++ mutsT (ts.drop (i + 1))) := by
  have hl := (List.getElem?_eq_some_iff.1 h).1
  have e : ts = ts.take i ++ t :: ts.drop (i + 1) := by
    have := List.drop_eq_getElem_cons hl
    rw [(List.getElem?_eq_some_iff.1 h).2] at this
    rw [← this, List.take_append_drop]
  conv => lhs; rw [e]
  rw [mutsT_append]
  rfl
theorem mutsT_setSplit {ts : List Tm} {i : Nat} {t t' : Tm} (h : ts[i]? = some t) : mutsT (ts.set i t') = mutsT (ts.take i) ++ (t'.mut ++ mutsT (ts.drop (i + 1))) := by
  have hl := (List.getElem?_eq_some_iff.1 h).1
  rw [List.set_eq_take_append_cons_drop, if_pos hl, mutsT_append]
  rfl
/-- one transaction written -/
theorem UniA.setTx {B : Nat} {x : Um} {W W' : World} {i : Nat} {t t' : Tm} (h : UniA B x W) (hi : x.ts[i]? = some t) (hb : t'.b = t.b) (ht : TxA B t' W') (k : Fr t.mut W W') (hv : ∀ g, t'.v.ownBlock = some g → t.v.ownBlock = some g ∨ W.heap.size ≤ g) :
    UniA B ⟨x.p, x.room, x.vb, x.L, x.vo, x.ts.set i t', x.fail⟩ W' ∧ UFr x ⟨x.p, x.room, x.vb, x.L, x.vo, x.ts.set i t', x.fail⟩ W W' := by
  have htm := List.mem_of_getElem? hi
  have hM : Muts t.mut W := fun g hg => ((h.txs t htm).muts g hg).2
  have hin : ∀ g ∈ t.mut, g ∈ mutsT x.ts := fun g hg => mem_mutsT.2 ⟨t, htm, hg⟩
  have hsp := mutsT_split hi
  have hnod := h.nod
  rw [hsp] at hnod
  have hnew : ∀ g ∈ t'.mut, g ∈ t.mut ∨ W.heap.size ≤ g := fun g hg => by
    rcases List.mem_cons.1 hg with e | hg
    · exact .inl (by rw [e, hb]; simp [Tm.mut])
    · rcases hv g (mem_ownL.1 hg) with e | e
      · exact .inl (by simp [Tm.mut, mem_ownL, e])
      · exact .inr e
  have hlt : ∀ g ∈ mutsT x.ts, g < W.heap.size := fun g hg => h.muts.lt g (by simp only [Um.muts, List.mem_cons, List.mem_append]; exact .inr (.inr hg))
  have hd1 : ∀ g ∈ mutsT (x.ts.take i), g ∈ mutsT x.ts := fun g hg => by rw [hsp]; exact List.mem_append_left _ hg
  have hd2 : ∀ g ∈ mutsT (x.ts.drop (i + 1)), g ∈ mutsT x.ts := fun g hg => by rw [hsp]; exact List.mem_append_right _ (List.mem_append_right _ hg)
  refine ⟨⟨k.blk h.box fun hm => h.notTx (hin _ hm), h.ge, h.base.fr k hM, ?_, fun y hy => ?_, ?_⟩, ⟨k.mono fun g hg => .inl ?_, fun g hg => ?_⟩⟩
  · have e : ((x.ts.set i t').map (·.b)) = x.ts.map (·.b) := by
      rw [List.map_set, hb]
      apply List.ext_getElem?
      intro j
      by_cases ej : i = j
      · subst ej
        have hx' : (x.ts.map (·.b))[i]? = some t.b := by rw [List.getElem?_map, hi]; rfl
        rw [List.getElem?_set_self (List.getElem?_eq_some_iff.1 hx').1, hx']
      · rw [List.getElem?_set_ne ej]
    show KOwns KX B x.vo ((x.ts.set i t').map (·.b)) W'
    rw [e]
    exact k.owns h.opn fun g hg hm => h.voTx hg (hin g hm)
  · obtain ⟨j, hj⟩ := List.mem_iff_getElem?.1 hy
    by_cases ej : i = j
    · subst ej
      have hl := (List.getElem?_eq_some_iff.1 hi).1
      rw [List.getElem?_set_self hl] at hj
      injection hj with hj
      subst hj
      exact ht
    · rw [List.getElem?_set_ne ej] at hj
      refine (h.txs y (List.mem_of_getElem? hj)).fr k hM fun g hg hm => ?_
      have hmem : g ∈ mutsT (x.ts.take i) ∨ g ∈ mutsT (x.ts.drop (i + 1)) := by
        rcases Nat.lt_or_gt_of_ne ej with q | q
        · refine .inr (mem_mutsT.2 ⟨y, List.mem_of_getElem? (i := j - (i + 1)) ?_, hg⟩)
          rw [List.getElem?_drop, show i + 1 + (j - (i + 1)) = j by omega]
          exact hj
        · refine .inl (mem_mutsT.2 ⟨y, List.mem_of_getElem? (i := j) ?_, hg⟩)
          rw [List.getElem?_take_of_lt q]
          exact hj
      rw [List.nodup_append] at hnod
      rcases hmem with q | q
      · exact hnod.2.2 g q g (List.mem_append_left _ hm) rfl
      · have h2 := hnod.2.1
        rw [List.nodup_append] at h2
        exact h2.2.2 g hm g q rfl
  · show (mutsT (x.ts.set i t')).Nodup
    rw [mutsT_setSplit hi]
    rw [List.nodup_append] at hnod ⊢
    obtain ⟨n1, n2, n3⟩ := hnod
    rw [List.nodup_append] at n2 ⊢
    obtain ⟨n4, n5, n6⟩ := n2
    refine ⟨n1, ⟨?_, n5, fun a ha b hb2 e => ?_⟩, fun a ha b hb2 e => ?_⟩
    · unfold Tm.mut
      rw [List.nodup_cons]
      refine ⟨fun hm => Typ.ne (ht.own.typ (mem_ownL.1 hm)) ht.box.typ (by decide) rfl, ?_⟩
      unfold ownL
      cases t'.v.ownBlock <;> simp
    · subst e
      rcases hnew a ha with q | q
      · exact n6 a q a hb2 rfl
      · have := hlt a (hd2 a hb2); omega
    · subst e
      rcases List.mem_append.1 hb2 with hb2 | hb2
      · rcases hnew a hb2 with q | q
        · exact n3 a ha a (List.mem_append_left _ q) rfl
        · have := hlt a (hd1 a ha); omega
      · exact n3 a ha a (List.mem_append_right _ hb2) rfl
  · simp only [Um.muts, List.mem_cons, List.mem_append]
    exact .inr (.inr (hin g hg))
  · simp only [Um.muts, List.mem_cons, List.mem_append] at hg ⊢
    rcases hg with rfl | hg | hg
    · exact .inl (.inl rfl)
    · exact .inl (.inr (.inl hg))
    · rw [mutsT_setSplit hi] at hg
      rcases List.mem_append.1 hg with q | q
      · exact .inl (.inr (.inr (hd1 g q)))
      · rcases List.mem_append.1 q with q | q
        · rcases hnew g q with r | r
          · exact .inl (.inr (.inr (hin g r)))
          · exact .inr r
        · exact .inl (.inr (.inr (hd2 g q)))
theorem txO_at {x : Um} {i : Nat} {t : Tm} (h : x.ts[i]? = some t) : txO x.un.opn i = t.tx := by
  unfold txO
  rw [show x.un.opn[i]? = some t.tx by show (x.ts.map (·.tx))[i]? = _; rw [List.getElem?_map, h]; rfl]
  rfl
/-- what change gives -/
def ChgRet (x : Um) (B : Nat) (id : Int) (m : Mu) (w : World) (e : Ending) (w' : World) : Prop :=
  ∃ x' : Um, e = .returned (.int .i64 (chgE x.un id m)) ∧ x'.un = chgS x.un id m ∧ UniA B x' w' ∧ x'.p = x.p ∧ UFr x x' w w'
/-- an operation that only reads, as an act -/
theorem rdWp {o : Oper} {a : Act} {w : World} {Kt : Act → World → Prop} {Q : Exit → Act → World → Prop} (v : Value) (hv : (execOp a.eval o).run Tryz.prog w = .ok (.value v) w) (h : Kt (a.put o.dst v) w) : o.wp Tryz.prog a w Kt Q := by
  unfold Oper.wp
  rw [hv]
  exact h
/-- a store of one cell in the middle of a row, as an act -/
theorem stWp {o : Oper} {a : Act} {w : World} {Kt : Act → World → Prop} {Q : Exit → Act → World → Prop} (ty : TypeId) (x y : Operand) (ho : o.op = .store ty x y)
    (b k : Nat) (v : Value) (hx : a.eval x = .pointer (some ⟨b, k, none⟩)) (hy : a.eval y = v) (h1 : v.oneCell' = true) (ht : w.there b k 1) (hi : (Tryz.prog.info? ty).map (·.size) = some 1)
    (h : Kt (a.put o.dst undef) (w.setCell ⟨b, k, none⟩ v)) : o.wp Tryz.prog a w Kt Q := by
  have hc : v.cells = #[v] := by cases v <;> first | rfl | cases h1
  have hq := run_storeCells_cells (P := Tryz.prog) b k [v] 0 w (fun j hj => by simpa using (ht j (by simpa using hj)).1) (fun j hj => by simpa using (ht j (by simpa using hj)).2) (fun u hu => by simp at hu; subst hu; exact h1)
  have hr : (storeVar ty ⟨b, k, none⟩ v).run Tryz.prog w = .ok () (w.setCell ⟨b, k, none⟩ v) := by
    cases hq' : Tryz.prog.info? ty with
    | none => simp [hq'] at hi
    | some i =>
      have hs : i.size = 1 := by simpa [hq'] using hi
      simp only [Nat.add_zero] at hq
      simp [storeVar, sizeOf, typeInfo, hq', hc, hs]
      exact hq
  unfold Oper.wp execOp
  simp only [ho, hx, hy, Instr.storeAt, Instr.sureAddr, Sem.run_bind, Sem.run_pure, Result.andThen_ok, hr]
  exact h
/-- any elements more at a slice of one's own, as an act; where they lie then -/
theorem kappendWWp {α : Type} (K : Kd α) (ok : K.Ok) {o : Oper} {a : Act} {w : World} {Kt : Act → World → Prop} {Q : Exit → Act → World → Prop} (s x : Operand)
    (ho : o.op = .call { callee := .builtin .append, args := #[s, x], argTypes := #[K.S, K.S] }) (base : Nat) (v : Value) (l k : List α) (hs : a.eval s = v) (hown : KOwns K base v l w)
    (u : Value) (hx : a.eval x = u) (hk : KLies K u k w) (hbase : base ≤ w.heap.size) (hlen : l.length + k.length ≤ 1000000)
    (h : ∀ v' w', KOwns K base v' (l ++ k) w' → w.grownBy w' v.ownBlock → (v'.ownBlock = v.ownBlock ∨ v'.ownBlock = some w.heap.size) → Kt (a.put o.dst v') w') : o.wp Tryz.prog a w Kt Q := by
  obtain ⟨i, z, hi, hz, hsz, hby, hc⟩ := ok.info
  have hl := ok.light hlen
  rcases hk with ⟨rfl, rfl⟩ | ⟨ad, cap, rfl, hcap, hr⟩
  · have hrun := run_append_owned_none (P := Tryz.prog) (w := w) base K.S o.type K.T i K.n ok.under hi v l.length (K.flat l) hown
    have hq := h v w (by rw [List.append_nil]; exact hown) ⟨rfl, rfl, rfl, Nat.le_refl _, fun _ _ _ => rfl⟩ (.inl rfl)
    unfold Oper.wp
    simp [execOp, ho, resolve, invoke, builtin, hs, hx, hrun, Result.andThen]
    exact hq
  · obtain ⟨v', w', hr', h2, h3, h4, h5⟩ := run_append_own_at (P := Tryz.prog) w base K.S o.type K.T i z K.n K.room ok.under hi hz hsz hby hc ok.pos v l.length (K.flat l) hown ad k.length cap (K.flat k) (ok.flat_len k)
      (KLies.news (.inr ⟨ad, cap, rfl, hcap, hr⟩) ok) (ok.flat_one k) (by unfold maxLen; omega) hl hbase
    unfold Oper.wp execOp
    simp only [ho, resolve, invoke, builtin, Sem.run_bind, Sem.run_pure, Result.andThen_ok, List.map_toArray, List.map_cons, List.map_nil, hs, hx, hr']
    refine h v' w' ?_ h3 h5
    unfold KOwns
    rw [List.length_append, K.flat_append]
    exact h2
theorem infoSA : (Tryz.prog.info? 38).map (·.size) = some 1 := by kernel_rfl
theorem infoSM : (Tryz.prog.info? 50).map (·.size) = some 1 := by kernel_rfl
theorem Tab.belowAt {B : Nat} {w W : World} (h : Tab w) (hz : 0 < B) (hb : Below B w W) : Tab W :=
  ⟨fun k hk => ⟨(hb.cell (p := ⟨0, k * 2, none⟩) hz).trans (h.1 k hk).1, (hb.cell (p := ⟨0, k * 2 + 1, none⟩) hz).trans (h.1 k hk).2⟩, by
    obtain ⟨t, fr, hf⟩ := h.2
    exact ⟨t, fr, (hb.block _ hz).trans hf⟩⟩
theorem Env.at_ {B : Nat} {w W : World} (ht : Tab w) (hz : 0 < B) (hb : Below B w W) (hB : B ≤ w.heap.size) : Tab W ∧ 0 < W.heap.size := ⟨ht.belowAt hz hb, by have := hb.size; omega⟩
theorem UFr.env {B : Nat} {x x' : Um} {w W : World} (h : UFr x x' w W) (hU : UniA B x w) (ht : Tab w) (hz : 0 < B) : Tab W ∧ 0 < W.heap.size := by
  have hB : B ≤ w.heap.size := by have := hU.lt; have := hU.ge; omega
  exact Env.at_ ht hz (h.old hU hB (Below.refl _ _)) hB
theorem FitM.opened {k : Nat} {x x' : Um} {id : Int} (h : FitM k x) (hn : k + 1 ≤ 9000) (e : x'.un = { x.un with opn := opnO x.un.opn id }) : FitM (k + 1) x' := ⟨by rw [e]; exact h.fit.opened id, hn⟩
/-- a change's actions stay where they are: they were there ahead of all that is written, or lie in a block of actions -/
def StM (B : Nat) (m : Mm) (W : World) : Prop := (∃ w0 : World, w0.heap.size ≤ B ∧ Below w0.heap.size w0 W ∧ InM m w0) ∨ OwnM 0 m W
section
variable {B : Nat} {m : Mm} {M : List Nat} {W W' : World}
theorem StM.inM (h : StM B m W) : InM m W := by
  rcases h with ⟨w0, _, h2, h3⟩ | h
  · exact h3.below h2
  · exact h.inM
theorem StM.fr (h : StM B m W) (k : Fr M W W') (hM : Muts M W) (hf : ∀ g ∈ M, B ≤ g) : StM B m W' := by
  rcases h with ⟨w0, h1, h2, h3⟩ | h
  · exact .inl ⟨w0, h1, h2.trans (k.below (fun g hg => Nat.le_trans h1 (hf g hg)) h2.size (Below.refl _ _)), h3⟩
  · exact .inr (h.fr k hM)
theorem StM.below (h : StM B m W) (hb : Below W.heap.size W W') : StM B m W' := h.fr (M := []) (Fr.of hb) (fun g hg => by cases hg) (fun g hg => by cases hg)
theorem StM.ufr {x x' : Um} (h : StM B m W) (k : UFr x x' W W') (hU : UniA B x W) : StM B m W' := h.fr k.fr hU.muts hU.from
end
theorem Blk.ufr {b : Nat} {cs : Array Value} {T : TypeId} {x x' : Um} {W W' : World} (h : Blk b cs T W) (k : UFr x x' W W') (hn : b ∉ x.muts) : Blk b cs T W' ∧ b ∉ x'.muts :=
  ⟨k.fr.blk h hn, fun hm => (k.new b hm).elim hn fun q => by have := h.lt; omega⟩
theorem chgE_of {x x' : Um} {id : Int} {t : Tm} {m : Mu} (e : x'.un = { x.un with opn := opnO x.un.opn id }) (ht : x'.ts[plO x.un.opn id]? = some t) (hr : t.ref = false) :
    chgE x.un id m = if x'.fail then 16 else judE x'.room x'.un.base x'.un.opn m := by
  have h1 := txO_at ht
  have e1 : x'.un.opn = opnO x.un.opn id := by rw [e]
  have e2 : x'.un.base = x.un.base := by rw [e]
  have e3 : x'.room = x.room := congrArg Un.room e
  have e4 : x'.fail = x.fail := congrArg Un.fail e
  rw [e1] at h1
  unfold chgE
  rw [h1, show t.tx.ref = false from hr, if_neg (by decide), e1, e2, e3, e4]
  rfl
theorem chgE_ref {x x' : Um} {id : Int} {t : Tm} {m : Mu} (e : x'.un = { x.un with opn := opnO x.un.opn id }) (ht : x'.ts[plO x.un.opn id]? = some t) (hr : t.ref = true) :
    chgE x.un id m = 0 ∧ chgS x.un id m = x'.un := by
  have h1 := txO_at ht
  have e1 : x'.un.opn = opnO x.un.opn id := by rw [e]
  rw [e1] at h1
  have h2 : (txO (opnO x.un.opn id) (plO x.un.opn id)).ref = true := by rw [h1]; exact hr
  unfold chgE chgS
  rw [h2, if_pos rfl, if_pos rfl, e]
  exact ⟨rfl, rfl⟩
theorem chgS_of {x x' : Um} {id : Int} {t : Tm} {m : Mu} (e : x'.un = { x.un with opn := opnO x.un.opn id }) (ht : x'.ts[plO x.un.opn id]? = some t) (hr : t.ref = false) (t' : Tm)
    (h' : t'.tx = if chgE x.un id m = 0 then t.tx.push m else t.tx.no) : (⟨x'.p, x'.room, x'.vb, x'.L, x'.vo, x'.ts.set (plO x.un.opn id) t', false⟩ : Um).un = chgS x.un id m := by
  have h1 := txO_at ht
  have e1 : x'.ts.map (·.tx) = opnO x.un.opn id := congrArg Un.opn e
  have e2 : x'.L.map (·.u) = x.un.base := congrArg Un.base e
  have e3 : x'.room = x.room := congrArg Un.room e
  have h2 : txO (opnO x.un.opn id) (plO x.un.opn id) = t.tx := by rw [← e1]; exact h1
  unfold chgS
  rw [h2, show t.tx.ref = false from hr, if_neg (by decide), ← h', ← e1]
  show (⟨x'.room, x'.L.map (·.u), (x'.ts.set _ t').map (·.tx), false⟩ : Un) = ⟨x.room, x.un.base, _, false⟩
  rw [List.map_set, e2, e3]
set_option maxHeartbeats 1000000 in
set_option maxRecDepth 100000 in
theorem un_change (x : Um) (B k : Nat) (id : Int) (hF : FitM k x) (hk : k + 1 ≤ 9000) (m : Mm) (hw : WfM m.u) (w : World) (h : UniA B x w) (hi : StM B m w) (ht : Tab w) (hz : 0 < B) :
    Calls Tryz.prog 41 #[.pointer (some ⟨x.p, 0, none⟩), .int .i64 id, .agg (mca m)] w (ChgRet x B id m.u w) := by
  have HB1 := Lib.hid (below1 w (.cells (mca m) 40))
  have HU1 := Lib.hid (h.below HB1.out)
  have HI1 := Lib.hid (hi.below HB1.out)
  have HT1 := Lib.hid (Env.at_ ht hz (HB1.out.mono (by have := h.lt; have := h.ge; omega)) (by have := h.lt; have := h.ge; omega))
  have R1 := Lib.hid (Blk.new w (mca m) 40)
  have HN1 := Lib.hid (show w.heap.size ∉ x.muts from fun hm => by have := h.muts.lt _ hm; omega)
  have HF := Lib.hid hF
  have HK := Lib.hid hk
  have HWM := Lib.hid hw
  have HTR := Lib.hid (un_trans x B id (by have := hF.len; omega) _ HU1.out)
  clear h hi ht hF hk hw
  go_enter Tryz.func41, Tryz.ntmps41
  obtain ⟨b0, hb0⟩ : ∃ b0, b0 = w.heap.size := ⟨_, rfl⟩
  rw [← hb0] at R1 HN1
  go_upto_region 1 with fail
  rw [← hb0]
  have HB0N := Lib.hid (Nat.le_of_eq hb0.symm)
  clear hb0
  generalize hW1 : w.alloc (.cells (mca m) 40) = w1 at *
  clear hW1
  go_upto_region 2 with (go_at_call 72; refine HTR.out.mono ?_; rintro e w2 ⟨x2, t, rfl, htx, hun, hU2, hp2, hf2⟩)
  obtain ⟨R2', hn2⟩ := R1.out.ufr hf2 HN1.out
  have R2 := Lib.hid R2'
  have HN2 := Lib.hid hn2
  have HU2 := Lib.hid hU2
  have HTX := Lib.hid htx
  have HUN := Lib.hid hun
  have HP2 := Lib.hid hp2
  have HF2 := Lib.hid hf2
  have HI2 := Lib.hid (HI1.out.ufr hf2 HU1.out)
  have HT2 := Lib.hid (hf2.env HU1.out HT1.out.1 hz)
  have HUF2 := Lib.hid (show UFr x x2 w w2 from (UFr.of x HB1.out).trans hf2)
  have HTA := Lib.hid (hU2.txs t (List.mem_of_getElem? htx))
  cases hr : t.ref
  · have HR := Lib.hid hr
    have HCE := Lib.hid (chgE_of (m := m.u) hun htx hr)
    have cr : w2.cell? ⟨t.b, 2, none⟩ = some (.bool false) := by rw [← hr]; exact HTA.out.ref_
    have HFA := Lib.hid (un_fault x2 B (k + 1) (HF.out.opened HK.out hun) m HWM.out w2 hU2 HI2.out.inM HT2.out.1 HT2.out.2)
    clear htx hun hU2 hp2 hf2 hn2 R2' hr HTR HU1 HI1 HT1 R1 HN1
    obtain ⟨E, hE⟩ : ∃ E, E = chgE x.un id m.u := ⟨_, rfl⟩
    have HEE := Lib.hid hE
    unfold JudRet at HFA
    rw [← HCE.out, ← hE, HP2.out] at HFA
    rw [← hE] at HCE
    clear hE
    go_upto_region 5 with (first
      | (refine wpList_load_row rfl 40 _ rfl b0 rfl 40 (mca m) (0, 0) _ R2.out Tryz.underlying40 rfl infoMod ?_)
      | (go_at_call 73; refine HFA.out.mono ?_; rintro e w3 ⟨rfl, hU3, hf3⟩))
    obtain ⟨R3', hn3⟩ := R2.out.ufr hf3 HN2.out
    have R3 := Lib.hid R3'
    have HN3 := Lib.hid hn3
    have HU3 := Lib.hid hU3
    have HI3 := Lib.hid (HI2.out.ufr hf3 HU2.out)
    have HUF3 := Lib.hid (HUF2.out.trans hf3)
    have HTA3 := Lib.hid (hU3.txs t (List.mem_of_getElem? HTX.out))
    have HNB0 := HN3
    have HBW3 := Lib.hid (show B ≤ w3.heap.size by have := hU3.lt; have := hU3.ge; omega)
    clear hU3 hf3 hn3 R3' cr HFA HU2 HI2 HT2 HUF2 HTA R2 HN2 HF2
    by_cases h0 : E = 0
    · have he : (E != 0) = false := by rw [h0]; rfl
      have HE0 := Lib.hid h0
      have k26 : w3.cell? ⟨b0, 26, none⟩ = some (.slice m.q m.n m.c) := R3.out.cellsM.2.2.2.1
      have HCL := Lib.hid (aclone_any (.slice m.q m.n m.c) m.u.acts HWM.out.room w3 HI3.out.inM)
      clear h0
      go_upto_region 9 with (go_at_call 74; refine HCL.out.mono ?_; rintro e w4 ⟨v4, rfl, ho4, hb4⟩; refine Hid.out ?_)
      obtain ⟨q4, c4, e4⟩ := ho4.form
      subst e4
      have R4 := Lib.hid (R3.out.below hb4)
      have HU4 := Lib.hid (HU3.out.below hb4)
      have HA4 := Lib.hid (ho4.mono HBW3.out)
      have HB4 := Lib.hid hb4
      have HM4 := Lib.hid (show Muts [b0] w4 from fun g hg => by
        simp only [List.mem_cons, List.not_mem_nil, or_false] at hg
        subst hg
        exact ⟨_, by decide, R4.out.typ⟩)
      have HTH4 := Lib.hid (show w4.there b0 26 1 from R4.out.there (by rw [mca_size]; decide))
      clear ho4 hb4 HCL k26 R3 HI3
      refine Lib.hid ?_
      go_upto_region 9 with (refine storeCell rfl 38 _ _ rfl b0 26 (.slice q4 m.u.acts.length c4) rfl rfl rfl HTH4.out infoSA ?_; refine Hid.out ?_)
      have HF5 := Lib.hid (Fr.cell w4 ⟨b0, 26, none⟩ (.slice q4 m.u.acts.length c4) (M := [b0]) (by simp))
      have R5 := Lib.hid (show Blk b0 (mca ⟨m.u, q4, m.u.acts.length, c4⟩) 40 (w4.setCell ⟨b0, 26, none⟩ (.slice q4 m.u.acts.length c4)) by
        have h := R4.out.one (k := 26) (.slice q4 m.u.acts.length c4)
        rw [mca_acts] at h
        exact h)
      have HU5 := Lib.hid (HU4.out.fr HF5.out HM4.out fun g hg hm => by
        simp only [List.mem_cons, List.not_mem_nil, or_false] at hm
        subst hm
        exact HN3.out hg)
      have HA5 := Lib.hid (HF5.out.ownsT HM4.out HA4.out notA)
      have HUF5 := Lib.hid (show UFr x ⟨x.p, x2.room, x2.vb, x2.L, x2.vo, x2.ts, false⟩ w (w4.setCell ⟨b0, 26, none⟩ (.slice q4 m.u.acts.length c4)) from
        ⟨(HUF3.out.fr.tr (Fr.of HB4.out |>.mono (M := []) fun g hg => by cases hg)).trans HF5.out fun g hg => by
          simp only [List.mem_cons, List.not_mem_nil, or_false] at hg
          subst hg
          exact .inr HB0N.out, HUF3.out.new⟩)
      clear HTH4 HM4 HF5 HU4 HA4 R4 HUF3 HU3 HB4 HN3 HTA3
      generalize w4.setCell ⟨b0, 26, none⟩ (.slice q4 m.u.acts.length c4) = w5 at *
      obtain ⟨m', hm'⟩ : ∃ m' : Mm, m' = ⟨m.u, q4, m.u.acts.length, c4⟩ := ⟨_, rfl⟩
      have HMU := Lib.hid (show m'.u = m.u by rw [hm'])
      rw [← hm'] at R5
      have HAM := Lib.hid (show OwnM B m' w5 by rw [hm']; exact HA5.out)
      clear HA5 hm'
      refine Lib.hid ?_
      go_upto_region 9 with fail
      refine wp_region_held_drew (S := fun W' => Blk b0 (mca m') 40 W') (by kernel_rfl) (show Blk b0 (mca m') 40 w5.drew from R5.out.drew) (fun hS => ?_)
      have HBD := Lib.hid (show Below w5.heap.size w5 w5.drew from (Below.refl _ _).drew)
      have HUW := Lib.hid (HU5.out.below HBD.out)
      have HAMW := Lib.hid (HAM.out.below HBD.out)
      have HUFW := Lib.hid (HUF5.out.trans (UFr.of _ HBD.out))
      obtain ⟨pv, cv, hvv⟩ := (HUW.out.txs t (List.mem_of_getElem? HTX.out)).own.form
      have HVV := Lib.hid hvv
      have HLM := Lib.hid (show t.ms.length + [m'].length ≤ 1000000 by
        have h1 := (HF.out.opened HK.out HUN.out).len
        have h2 := chgT_len x2.ts (plO x.un.opn id + 1)
        rw [chgT_take _ _ _ HTX.out, List.length_append] at h2
        rw [List.length_singleton]
        omega)
      clear HBD HU5 R5 HAM HUF5 hvv
      generalize w5.drew = W at *
      refine seqRead 0 (v := _) rfl (by kernel_rfl) (by kernel_rfl) (by kernel_rfl) (fun _ _ _ h => h) rfl (fun w hSw => by go_simp <;> with_reducible rfl) hS ?_
      try simp only [Act.put, List.setIfInBounds_toArray, List.set_cons_zero, List.set_cons_succ]
      refine seqRead 1 (v := _) rfl (by kernel_rfl) (by kernel_rfl) (by kernel_rfl) (fun _ _ _ h => h) rfl (fun w hSw => by go_simp <;> with_reducible rfl) hS ?_
      try simp only [Act.put, List.setIfInBounds_toArray, List.set_cons_zero, List.set_cons_succ]
      refine seqRead 2 (v := _) rfl (by kernel_rfl) (by kernel_rfl) (by kernel_rfl) (fun _ _ _ h => h) rfl (fun w hSw => by go_simp <;> with_reducible rfl) hS ?_
      try simp only [Act.put, List.setIfInBounds_toArray, List.set_cons_zero, List.set_cons_succ]
      refine seqRead 3 (v := _) rfl (by kernel_rfl) (by kernel_rfl) (by kernel_rfl) (fun _ _ _ h => h) rfl (fun w hSw => by go_simp <;> with_reducible rfl) hS ?_
      try simp only [Act.put, List.setIfInBounds_toArray, List.set_cons_zero, List.set_cons_succ]
      refine seqRead 5 (v := _) rfl (by kernel_rfl) (by kernel_rfl) (by kernel_rfl) (fun _ _ _ h => h) rfl (fun w hSw => (show (execOp _ _).run _ w = .ok (.value (.agg (mca m'))) w from execRow0 rfl b0 rfl hSw Tryz.underlying40 rfl infoMod)) hS ?_
      try simp only [Act.put, List.setIfInBounds_toArray, List.set_cons_zero, List.set_cons_succ]
      refine seqActs2 4 6 rfl rfl (by kernel_rfl) rfl (fun K hK => ?_) rfl (fun K hK => ?_)
      · have k1 : W.cell? ⟨t.b, 1, none⟩ = some (.slice pv t.ms.length cv) := by rw [← HVV.out]; exact (HUW.out.txs t (List.mem_of_getElem? HTX.out)).v_
        refine rdWp (.slice pv t.ms.length cv) (by go_simp <;> with_reducible rfl) ?_
        refine hK.out _ _ hS (fun hS => ?_)
        clear hK K k1
        try simp only [Act.put, List.setIfInBounds_toArray, List.set_cons_zero, List.set_cons_succ]
        refine seqCall 6 rfl (by kernel_rfl) rfl (fun K hK => ?_)
        refine kbuildOneWp KM okM #[Value.int IntKind.i64 0, Value.int IntKind.u64 0, Value.int IntKind.u64 0, Value.int IntKind.u64 0, Value.int IntKind.u64 0, Value.int IntKind.u64 0, Value.int IntKind.u64 0, Value.int IntKind.u64 0, Value.int IntKind.u64 0, Value.int IntKind.u64 0, Value.int IntKind.u64 0, Value.int IntKind.u64 0, Value.int IntKind.u64 0, Value.int IntKind.u64 0, Value.int IntKind.u64 0, Value.int IntKind.u64 0, Value.int IntKind.u64 0, Value.int IntKind.u64 0, Value.int IntKind.u64 0, Value.int IntKind.u64 0, Value.int IntKind.u64 0, Value.int IntKind.u64 0, Value.int IntKind.u64 0, Value.int IntKind.u64 0, Value.int IntKind.u64 0, Value.int IntKind.i64 0, Value.slice none 0 0, Value.int IntKind.i64 0, Value.int IntKind.i64 0, Value.int IntKind.i64 0, Value.bool false] zeroMd (.tmp 34) rfl (mca m') rfl (by decide) (fillMd m') ?_
        have HUWb := Lib.hid (HUW.out.below (below1 W (.cells (mca m') KM.T)))
        have RBWb := Lib.hid (Blk.new W (mca m') KM.T)
        have HAMWb := Lib.hid (HAMW.out.below (below1 W (.cells (mca m') KM.T)))
        have HUFWb := Lib.hid (HUFW.out.trans (UFr.of _ (below1 W (.cells (mca m') KM.T))))
        refine hK.out _ _ (hS.below (below1 W (.cells (mca m') KM.T))) (fun hS => ?_)
        clear hK K
        generalize hWb : W.alloc (.cells (mca m') KM.T) = Wb at *
        clear hWb
        try simp only [Act.put, List.setIfInBounds_toArray, List.set_cons_zero, List.set_cons_succ]
        refine seqCall 7 rfl (by kernel_rfl) rfl (fun K hK => ?_)
        have HTAb := Lib.hid (HUWb.out.txs t (List.mem_of_getElem? HTX.out))
        have HLB := Lib.hid (show B ≤ Wb.heap.size by have := HUWb.out.lt; have := HUWb.out.ge; omega)
        refine kappendWWp KM okM (.tmp 33) (.tmp 35) rfl B (.slice pv t.ms.length cv) t.ms [m'] rfl (by rw [← HVV.out]; exact HTAb.out.own) _ rfl (oneM RBWb.out) HLB.out HLM.out (fun v7 w7 ho7 hg7 hn7 => ?_)
        have HF7 := Lib.hid (show Fr (ownL t.v) Wb w7 from Fr.grown hg7 fun k hk => by rw [mem_ownL, HVV.out]; exact hk)
        have HM7 := Lib.hid (show Muts (ownL t.v) Wb from fun g hg => by
          have e := mem_ownL.1 hg
          exact ⟨_, by decide, HTAb.out.own.typ e⟩)
        have HBX7 := Lib.hid (show Blk t.b (tca t) 93 w7 from HF7.out.blk HTAb.out.box fun hm => Typ.ne (HTAb.out.own.typ (mem_ownL.1 hm)) HTAb.out.box.typ (by decide) rfl)
        have HO7 := Lib.hid ho7
        have HNN7 := Lib.hid hn7
        have HAA7 := Lib.hid (show ∀ y ∈ t.ms ++ [m'], OwnM B y w7 from fun y hy => by
          rcases List.mem_append.1 hy with q | q
          · exact (HTAb.out.acts y q).fr HF7.out HM7.out
          · simp only [List.mem_cons, List.not_mem_nil, or_false] at q
            subst q
            exact HAMWb.out.fr HF7.out HM7.out)
        have HB07 := Lib.hid (show Blk b0 (mca m') 40 w7 from HF7.out.blk hS fun hm => HNB0.out (by
          simp only [Um.muts, List.mem_cons, List.mem_append]
          exact .inr (.inr (mem_mutsT.2 ⟨t, List.mem_of_getElem? HTX.out, by simp only [Tm.mut, List.mem_cons]; exact .inr hm⟩))))
        refine hK.out _ _ HB07.out (fun hS => ?_)
        clear hK K ho7 hg7 hn7
        try simp only [Act.put, List.setIfInBounds_toArray, List.set_cons_zero, List.set_cons_succ]
        refine seqRead 8 (v := _) rfl (by kernel_rfl) (by kernel_rfl) (by kernel_rfl) (fun _ _ _ h => h) rfl (fun w hSw => by go_simp <;> with_reducible rfl) hS ?_
        try simp only [Act.put, List.setIfInBounds_toArray, List.set_cons_zero, List.set_cons_succ]
        refine seqRead 9 (v := _) rfl (by kernel_rfl) (by kernel_rfl) (by kernel_rfl) (fun _ _ _ h => h) rfl (fun w hSw => by go_simp <;> with_reducible rfl) hS ?_
        try simp only [Act.put, List.setIfInBounds_toArray, List.set_cons_zero, List.set_cons_succ]
        refine seqCall 10 rfl (by kernel_rfl) rfl (fun K hK => ?_)
        have HTH7 := Lib.hid (show w7.there t.b 1 1 from HBX7.out.there (by show 2 ≤ 3; decide))
        have HONE := Lib.hid (show v7.oneCell' = true by obtain ⟨q, cc, e⟩ := HO7.out.form; rw [e]; rfl)
        refine stWp 50 _ _ rfl t.b 1 v7 rfl rfl HONE.out HTH7.out infoSM ?_
        refine hK.out _ _ (show Blk b0 (mca m') 40 (w7.setCell ⟨t.b, 1, none⟩ v7) from (heap_setCell_other _ _ _ _ (fun e => HNB0.out (by
          simp only [Um.muts, List.mem_cons, List.mem_append]
          exact .inr (.inr (mem_mutsT.2 ⟨t, List.mem_of_getElem? HTX.out, by rw [e]; simp [Tm.mut]⟩))))).trans HB07.out) (fun hS => ?_)
        clear hK K
        have HF8 := Lib.hid (Fr.cell w7 ⟨t.b, 1, none⟩ v7 (M := [t.b]) (by simp))
        have HM8 := Lib.hid (show Muts [t.b] w7 from fun g hg => by
          simp only [List.mem_cons, List.not_mem_nil, or_false] at hg
          subst hg
          exact ⟨_, by decide, HBX7.out.typ⟩)
        have HT8 := Lib.hid (show TxA B ⟨t.b, t.id, v7, t.ms ++ [m'], t.ref⟩ (w7.setCell ⟨t.b, 1, none⟩ v7) from
          ⟨HBX7.out.one (k := 1) v7, HTAb.out.ge, HF8.out.owns HO7.out fun g hg hm => by
            simp only [List.mem_cons, List.not_mem_nil, or_false] at hm
            subst hm
            exact Typ.ne (HO7.out.typ hg) HBX7.out.typ (by decide) rfl, fun y hy => (HAA7.out y hy).fr HF8.out HM8.out⟩)
        have HFT := Lib.hid (show Fr t.mut Wb (w7.setCell ⟨t.b, 1, none⟩ v7) from (HF7.out.mono fun g hg => .inl (by simp only [Tm.mut, List.mem_cons]; exact .inr hg)).tr (HF8.out.mono fun g hg => .inl (by
          simp only [List.mem_cons, List.not_mem_nil, or_false] at hg
          subst hg
          simp [Tm.mut])))
        have HST := Lib.hid (UniA.setTx (t' := ⟨t.b, t.id, v7, t.ms ++ [m'], t.ref⟩) HUWb.out HTX.out rfl HT8.out HFT.out fun g hg => by
          rcases HNN7.out with q | q
          · rw [q] at hg
            exact .inl (by rw [HVV.out]; exact hg)
          · rw [q] at hg
            injection hg with hg
            exact .inr (by omega))
        have HUF8 := Lib.hid (HUFWb.out.trans HST.out.2)
        clear HTH7 HONE HF8 HM8 HT8 HFT HBX7 HO7 HAA7 HB07 HF7 HM7 HNN7 HTAb
        generalize w7.setCell ⟨t.b, 1, none⟩ v7 = w8 at *
        try simp only [Act.put]
        refine seqDone (by kernel_rfl) ?_
        clear hS
        go_wp2_with fail
        go_ret
        refine ⟨_, by rw [← HEE.out, HE0.out]; rfl, chgS_of HUN.out HTX.out HR.out ⟨t.b, t.id, v7, t.ms ++ [m'], t.ref⟩ ?_, by have h := HST.out.1; rw [← HP2.out] at h; exact h, HP2.out, by have h := HUF8.out; rw [← HP2.out] at h; exact h⟩
        rw [← HEE.out, HE0.out, if_pos rfl]
        show (⟨t.id, (t.ms ++ [m']).map (·.u), t.ref⟩ : Tx) = ⟨t.id, t.ms.map (·.u) ++ [m.u], t.ref⟩
        rw [List.map_append, List.map_cons, List.map_nil, HMU.out]
      · refine kbuildOneWp KM okM #[Value.int IntKind.i64 0, Value.int IntKind.u64 0, Value.int IntKind.u64 0, Value.int IntKind.u64 0, Value.int IntKind.u64 0, Value.int IntKind.u64 0, Value.int IntKind.u64 0, Value.int IntKind.u64 0, Value.int IntKind.u64 0, Value.int IntKind.u64 0, Value.int IntKind.u64 0, Value.int IntKind.u64 0, Value.int IntKind.u64 0, Value.int IntKind.u64 0, Value.int IntKind.u64 0, Value.int IntKind.u64 0, Value.int IntKind.u64 0, Value.int IntKind.u64 0, Value.int IntKind.u64 0, Value.int IntKind.u64 0, Value.int IntKind.u64 0, Value.int IntKind.u64 0, Value.int IntKind.u64 0, Value.int IntKind.u64 0, Value.int IntKind.u64 0, Value.int IntKind.i64 0, Value.slice none 0 0, Value.int IntKind.i64 0, Value.int IntKind.i64 0, Value.int IntKind.i64 0, Value.bool false] zeroMd (.tmp 34) rfl (mca m') rfl (by decide) (fillMd m') ?_
        have HUWb := Lib.hid (HUW.out.below (below1 W (.cells (mca m') KM.T)))
        have RBWb := Lib.hid (Blk.new W (mca m') KM.T)
        have HAMWb := Lib.hid (HAMW.out.below (below1 W (.cells (mca m') KM.T)))
        have HUFWb := Lib.hid (HUFW.out.trans (UFr.of _ (below1 W (.cells (mca m') KM.T))))
        refine hK.out _ _ (hS.below (below1 W (.cells (mca m') KM.T))) (fun hS => ?_)
        clear hK K
        generalize hWb : W.alloc (.cells (mca m') KM.T) = Wb at *
        clear hWb
        try simp only [Act.put, List.setIfInBounds_toArray, List.set_cons_zero, List.set_cons_succ]
        refine seqCall 4 rfl (by kernel_rfl) rfl (fun K hK => ?_)
        have k1 : Wb.cell? ⟨t.b, 1, none⟩ = some (.slice pv t.ms.length cv) := by rw [← HVV.out]; exact (HUWb.out.txs t (List.mem_of_getElem? HTX.out)).v_
        refine rdWp (.slice pv t.ms.length cv) (by go_simp <;> with_reducible rfl) ?_
        refine hK.out _ _ hS (fun hS => ?_)
        clear hK K k1
        try simp only [Act.put, List.setIfInBounds_toArray, List.set_cons_zero, List.set_cons_succ]
        refine seqCall 7 rfl (by kernel_rfl) rfl (fun K hK => ?_)
        have HTAb := Lib.hid (HUWb.out.txs t (List.mem_of_getElem? HTX.out))
        have HLB := Lib.hid (show B ≤ Wb.heap.size by have := HUWb.out.lt; have := HUWb.out.ge; omega)
        refine kappendWWp KM okM (.tmp 33) (.tmp 35) rfl B (.slice pv t.ms.length cv) t.ms [m'] rfl (by rw [← HVV.out]; exact HTAb.out.own) _ rfl (oneM RBWb.out) HLB.out HLM.out (fun v7 w7 ho7 hg7 hn7 => ?_)
        have HF7 := Lib.hid (show Fr (ownL t.v) Wb w7 from Fr.grown hg7 fun k hk => by rw [mem_ownL, HVV.out]; exact hk)
        have HM7 := Lib.hid (show Muts (ownL t.v) Wb from fun g hg => by
          have e := mem_ownL.1 hg
          exact ⟨_, by decide, HTAb.out.own.typ e⟩)
        have HBX7 := Lib.hid (show Blk t.b (tca t) 93 w7 from HF7.out.blk HTAb.out.box fun hm => Typ.ne (HTAb.out.own.typ (mem_ownL.1 hm)) HTAb.out.box.typ (by decide) rfl)
        have HO7 := Lib.hid ho7
        have HNN7 := Lib.hid hn7
        have HAA7 := Lib.hid (show ∀ y ∈ t.ms ++ [m'], OwnM B y w7 from fun y hy => by
          rcases List.mem_append.1 hy with q | q
          · exact (HTAb.out.acts y q).fr HF7.out HM7.out
          · simp only [List.mem_cons, List.not_mem_nil, or_false] at q
            subst q
            exact HAMWb.out.fr HF7.out HM7.out)
        have HB07 := Lib.hid (show Blk b0 (mca m') 40 w7 from HF7.out.blk hS fun hm => HNB0.out (by
          simp only [Um.muts, List.mem_cons, List.mem_append]
          exact .inr (.inr (mem_mutsT.2 ⟨t, List.mem_of_getElem? HTX.out, by simp only [Tm.mut, List.mem_cons]; exact .inr hm⟩))))
        refine hK.out _ _ HB07.out (fun hS => ?_)
        clear hK K ho7 hg7 hn7
        try simp only [Act.put, List.setIfInBounds_toArray, List.set_cons_zero, List.set_cons_succ]
        refine seqRead 8 (v := _) rfl (by kernel_rfl) (by kernel_rfl) (by kernel_rfl) (fun _ _ _ h => h) rfl (fun w hSw => by go_simp <;> with_reducible rfl) hS ?_
        try simp only [Act.put, List.setIfInBounds_toArray, List.set_cons_zero, List.set_cons_succ]
        refine seqRead 9 (v := _) rfl (by kernel_rfl) (by kernel_rfl) (by kernel_rfl) (fun _ _ _ h => h) rfl (fun w hSw => by go_simp <;> with_reducible rfl) hS ?_
        try simp only [Act.put, List.setIfInBounds_toArray, List.set_cons_zero, List.set_cons_succ]
        refine seqCall 10 rfl (by kernel_rfl) rfl (fun K hK => ?_)
        have HTH7 := Lib.hid (show w7.there t.b 1 1 from HBX7.out.there (by show 2 ≤ 3; decide))
        have HONE := Lib.hid (show v7.oneCell' = true by obtain ⟨q, cc, e⟩ := HO7.out.form; rw [e]; rfl)
        refine stWp 50 _ _ rfl t.b 1 v7 rfl rfl HONE.out HTH7.out infoSM ?_
        refine hK.out _ _ (show Blk b0 (mca m') 40 (w7.setCell ⟨t.b, 1, none⟩ v7) from (heap_setCell_other _ _ _ _ (fun e => HNB0.out (by
          simp only [Um.muts, List.mem_cons, List.mem_append]
          exact .inr (.inr (mem_mutsT.2 ⟨t, List.mem_of_getElem? HTX.out, by rw [e]; simp [Tm.mut]⟩))))).trans HB07.out) (fun hS => ?_)
        clear hK K
        have HF8 := Lib.hid (Fr.cell w7 ⟨t.b, 1, none⟩ v7 (M := [t.b]) (by simp))
        have HM8 := Lib.hid (show Muts [t.b] w7 from fun g hg => by
          simp only [List.mem_cons, List.not_mem_nil, or_false] at hg
          subst hg
          exact ⟨_, by decide, HBX7.out.typ⟩)
        have HT8 := Lib.hid (show TxA B ⟨t.b, t.id, v7, t.ms ++ [m'], t.ref⟩ (w7.setCell ⟨t.b, 1, none⟩ v7) from
          ⟨HBX7.out.one (k := 1) v7, HTAb.out.ge, HF8.out.owns HO7.out fun g hg hm => by
            simp only [List.mem_cons, List.not_mem_nil, or_false] at hm
            subst hm
            exact Typ.ne (HO7.out.typ hg) HBX7.out.typ (by decide) rfl, fun y hy => (HAA7.out y hy).fr HF8.out HM8.out⟩)
        have HFT := Lib.hid (show Fr t.mut Wb (w7.setCell ⟨t.b, 1, none⟩ v7) from (HF7.out.mono fun g hg => .inl (by simp only [Tm.mut, List.mem_cons]; exact .inr hg)).tr (HF8.out.mono fun g hg => .inl (by
          simp only [List.mem_cons, List.not_mem_nil, or_false] at hg
          subst hg
          simp [Tm.mut])))
        have HST := Lib.hid (UniA.setTx (t' := ⟨t.b, t.id, v7, t.ms ++ [m'], t.ref⟩) HUWb.out HTX.out rfl HT8.out HFT.out fun g hg => by
          rcases HNN7.out with q | q
          · rw [q] at hg
            exact .inl (by rw [HVV.out]; exact hg)
          · rw [q] at hg
            injection hg with hg
            exact .inr (by omega))
        have HUF8 := Lib.hid (HUFWb.out.trans HST.out.2)
        clear HTH7 HONE HF8 HM8 HT8 HFT HBX7 HO7 HAA7 HB07 HF7 HM7 HNN7 HTAb
        generalize w7.setCell ⟨t.b, 1, none⟩ v7 = w8 at *
        try simp only [Act.put]
        refine seqDone (by kernel_rfl) ?_
        clear hS
        go_wp2_with fail
        go_ret
        refine ⟨_, by rw [← HEE.out, HE0.out]; rfl, chgS_of HUN.out HTX.out HR.out ⟨t.b, t.id, v7, t.ms ++ [m'], t.ref⟩ ?_, by have h := HST.out.1; rw [← HP2.out] at h; exact h, HP2.out, by have h := HUF8.out; rw [← HP2.out] at h; exact h⟩
        rw [← HEE.out, HE0.out, if_pos rfl]
        show (⟨t.id, (t.ms ++ [m']).map (·.u), t.ref⟩ : Tx) = ⟨t.id, t.ms.map (·.u) ++ [m.u], t.ref⟩
        rw [List.map_append, List.map_cons, List.map_nil, HMU.out]
    · have he : (E != 0) = true := by simpa using h0
      have HE0 := Lib.hid h0
      have HTH := Lib.hid (show w3.there t.b 2 1 from HTA3.out.box.there (by show 3 ≤ 3; decide))
      clear h0 HI3 R3 HN3
      go_wp2_with (refine storeCell rfl 4 _ _ rfl t.b 2 (.bool true) rfl rfl rfl HTH.out infoBool ?_; refine Hid.out ?_)
      have HF8 := Lib.hid (Fr.cell w3 ⟨t.b, 2, none⟩ (.bool true) (M := [t.b]) (by simp))
      have HM8 := Lib.hid (show Muts [t.b] w3 from fun g hg => by
        simp only [List.mem_cons, List.not_mem_nil, or_false] at hg
        subst hg
        exact ⟨_, by decide, HTA3.out.box.typ⟩)
      have HT8 := Lib.hid (show TxA B ⟨t.b, t.id, t.v, t.ms, true⟩ (w3.setCell ⟨t.b, 2, none⟩ (.bool true)) from
        ⟨HTA3.out.box.one (k := 2) (.bool true), HTA3.out.ge, HF8.out.owns HTA3.out.own fun g hg hm => by
          simp only [List.mem_cons, List.not_mem_nil, or_false] at hm
          subst hm
          exact Typ.ne (HTA3.out.own.typ hg) HTA3.out.box.typ (by decide) rfl, fun y hy => (HTA3.out.acts y hy).fr HF8.out HM8.out⟩)
      have HFT := Lib.hid (show Fr t.mut w3 (w3.setCell ⟨t.b, 2, none⟩ (.bool true)) from HF8.out.mono fun g hg => .inl (by
        simp only [List.mem_cons, List.not_mem_nil, or_false] at hg
        subst hg
        simp [Tm.mut]))
      have HST := Lib.hid (UniA.setTx (t' := ⟨t.b, t.id, t.v, t.ms, true⟩) HU3.out HTX.out rfl HT8.out HFT.out fun g hg => .inl hg)
      have HUF8 := Lib.hid (HUF3.out.trans HST.out.2)
      clear HTH HF8 HM8 HT8 HFT HTA3 HU3 HUF3
      generalize w3.setCell ⟨t.b, 2, none⟩ (.bool true) = w8 at *
      refine Lib.hid ?_
      go_wp2_with fail
      go_ret
      refine ⟨_, by rw [← HEE.out]; rfl, chgS_of HUN.out HTX.out HR.out ⟨t.b, t.id, t.v, t.ms, true⟩ ?_, by have h := HST.out.1; rw [← HP2.out] at h; exact h, HP2.out, by have h := HUF8.out; rw [← HP2.out] at h; exact h⟩
      rw [← HEE.out, if_neg HE0.out]
      rfl
  · have HCE := Lib.hid (chgE_ref (m := m.u) hun htx hr)
    have cr : w2.cell? ⟨t.b, 2, none⟩ = some (.bool true) := by rw [← hr]; exact HTA.out.ref_
    clear htx hun hU2 hp2 hf2 hn2 R2' hr HTR HU1 HI1 HT1 R1 HN1
    go_wp2_with fail
    go_ret
    exact ⟨x2, by rw [HCE.out.1]; rfl, HCE.out.2.symm, HU2.out, HP2.out, HUF2.out⟩
end Go.Proofs.YtomnpfbebimpkaaGreatDoor

/-
  Take: a unit handles a message.
-/
namespace Go.Proofs.YtomnpfbebimpkaaGreatDoor
set_option maxRecDepth 20000
open Go.RowKit

theorem infoSR : (Tryz.prog.info? 27).map (·.size) = some 1 := by kernel_rfl
/-- what Take gives -/
def TakeRet (x : Um) (B : Nat) (g : Gm) (w : World) (e : Ending) (w' : World) : Prop :=
  ∃ (x' : Um) (v : Value) (gs : List Gm), e = .returned v ∧ gs.map (·.u) = takeA x.un g.u ∧ AnsL w.heap.size v gs w' ∧ x'.un = takeS x.un g.u ∧ UniA B x' w' ∧ x'.p = x.p ∧ UFr x x' w w'
section
variable {s : Un} {m : Ms}
theorem takeA_no (h : sndMs m = false) : takeA s m = [errM m.txn 2] := by unfold takeA; rw [if_pos h]
theorem takeS_no (h : sndMs m = false) : takeS s m = s := by unfold takeS; rw [if_pos h]
theorem sndNot (h : sndMs m = true) : ¬ sndMs m = false := by rw [h]; decide
theorem takeA_mod (h : sndMs m = true) (hk : m.kind = 1) : takeA s m = errL m.txn (chgE s m.txn m.mod) := by unfold takeA; rw [if_neg (sndNot h), if_pos hk]
theorem takeS_mod (h : sndMs m = true) (hk : m.kind = 1) : takeS s m = chgS s m.txn m.mod := by unfold takeS; rw [if_neg (sndNot h), if_pos hk]
theorem takeA_bar (h : sndMs m = true) (hk : m.kind = 2) : takeA s m = [⟨7, m.txn, 0, zMu, 0, zHd, []⟩] := by unfold takeA; rw [if_neg (sndNot h), if_neg (by omega), if_pos hk]
theorem takeS_oth (h1 : m.kind ≠ 1) (h3 : m.kind ≠ 3) (h4 : m.kind ≠ 4) : takeS s m = s := by
  unfold takeS
  by_cases h : sndMs m = false
  · rw [if_pos h]
  · rw [if_neg h, if_neg h1, if_neg h3, if_neg h4]
theorem takeA_ask (h : sndMs m = true) (hk : m.kind = 5) : takeA s m = [⟨10, m.txn, 0, zMu, 0, zHd, s.base⟩] := by unfold takeA; rw [if_neg (sndNot h), if_neg (by omega), if_neg (by omega), if_pos hk]
theorem takeA_end (h : sndMs m = true) (hk : m.kind = 3 ∨ m.kind = 4) : takeA s m = [] := by unfold takeA; rw [if_neg (sndNot h), if_neg (by omega), if_neg (by omega), if_neg (by omega), if_pos hk]
theorem takeA_oth (h : sndMs m = true) (hk : 5 < m.kind) : takeA s m = [errM m.txn 2] := by unfold takeA; rw [if_neg (sndNot h), if_neg (by omega), if_neg (by omega), if_neg (by omega), if_neg (by omega)]
theorem takeS_commit {x : Um} {v vo : Value} {L : List Rm} {ms : List Mm} {ts : List Tm} (h : sndMs m = true) (hk : m.kind = 3) (hL : L.map (·.u) = layL (x.L.map (·.u)) (ms.map (·.u))) (hm : ms.map (·.u) = endB x.un m.txn) (ht : ts.map (·.tx) = endO x.un m.txn) :
    takeS x.un m = (⟨x.p, x.room, v, L, vo, ts, x.fail⟩ : Um).un := by
  unfold takeS
  rw [if_neg (sndNot h), if_neg (by omega), if_pos hk]
  show (⟨x.room, layL x.un.base (endB x.un m.txn), endO x.un m.txn, x.fail⟩ : Un) = ⟨x.room, L.map (·.u), ts.map (·.tx), x.fail⟩
  rw [hL, hm, ht]
  rfl
theorem takeS_undo {x : Um} {vo : Value} {ts : List Tm} (h : sndMs m = true) (hk : m.kind = 4) (ht : ts.map (·.tx) = endO x.un m.txn) : takeS x.un m = (⟨x.p, x.room, x.vb, x.L, vo, ts, x.fail⟩ : Um).un := by
  unfold takeS
  rw [if_neg (sndNot h), if_neg (by omega), if_neg (by omega), if_pos hk]
  show (⟨x.room, x.un.base, endO x.un m.txn, x.fail⟩ : Un) = ⟨x.room, x.L.map (·.u), ts.map (·.tx), x.fail⟩
  rw [ht]
  rfl
theorem snd_kinds (h : sndMs m = true) : m.kind = 1 ∨ m.kind = 2 ∨ m.kind = 3 ∨ m.kind = 4 ∨ m.kind = 5 ∨ 5 < m.kind := by
  unfold sndMs at h
  rw [Bool.and_eq_true] at h
  have h := h.2
  split at h
  · exact .inl (by assumption)
  split at h
  · omega
  split at h
  · omega
  split at h
  · omega
  split at h
  · omega
  · simp only [Bool.and_eq_true, decide_eq_true_eq] at h
    omega
end
theorem un_base (x : Um) (B k : Nat) (hF : FitM k x) (w : World) (h : UniA B x w) : Calls Tryz.prog 15 #[.pointer (some ⟨x.p, 0, none⟩)] w (LayRet w.heap.size w x.un.base) := by
  obtain ⟨pb, cb, hvb⟩ := h.base.1.form
  have c1 : w.cell? ⟨x.p, 1, none⟩ = some (.slice pb x.L.length cb) := by rw [← hvb]; exact h.vb_
  have HC := Lib.hid (copy_any (.slice pb x.L.length cb) x.L (by have := hF.len; omega) hF.wfR w (by rw [← hvb]; exact h.base.lies))
  clear h hF hvb
  go_enter Tryz.func15, Tryz.ntmps15
  go_wp2_with (go_at_call 35; refine HC.out.mono ?_; rintro e w1 ⟨g, L, rfl, hu, hc⟩)
  go_ret
  exact ⟨_, L, rfl, hu, ⟨KAt.owns okR hc.1 hc.2.2.2, fun y hy => (hc.2.1 y hy).mono (by have := hc.2.2.2; omega)⟩, hc.2.2.1⟩
/-- the answer to a question -/
def staG (t : Int) (q : Option Addr) (L : List Rm) (c : Nat) : Gm := ⟨10, t, 0, zMm, 0, zHd, q, L.length, c, L⟩
def barG (t : Int) : Gm := ⟨7, t, 0, zMm, 0, zHd, none, 0, 0, []⟩
theorem builtSta (t : Int) (q : Option Addr) (L : List Rm) (c : Nat) : Tryz.prog.built 42 [(0, .int .i64 10), (1, .int .i64 t), (6, .slice q L.length c)] = some (gca (staG t q L c)) := by kernel_rfl
theorem execSta {a : Act} {oi : Oper} {w : World} {x y z : Operand} (ho : oi.op = .build 42 #[(0, x), (1, y), (6, z)]) (t : Int) (q : Option Addr) (L : List Rm) (c : Nat) (hx : a.eval x = .int .i64 10) (hy : a.eval y = .int .i64 t) (hz : a.eval z = .slice q L.length c) :
    (execOp a.eval oi).run Tryz.prog w = .ok (.value (.agg (gca (staG t q L c)))) w := by
  have e : (Instr.build 42 #[(0, .int .i64 10), (1, .int .i64 t), (6, .slice q L.length c)]).run Tryz.prog w = .ok (.agg (gca (staG t q L c))) w := run_build w _ _ _ (builtSta t q L c)
  unfold execOp
  simp only [ho, List.map_toArray, List.map_cons, List.map_nil, hx, hy, hz, Sem.run_bind, e, Result.andThen_ok, Sem.run_pure]
theorem builtBar (t : Int) : Tryz.prog.built 42 [(0, .int .i64 7), (1, .int .i64 t)] = some (gca (barG t)) := by kernel_rfl
theorem buildBar {ops : Array Oper} {rest : List Oper} {o : Oper} {a : Act} {w : World} {Q : Exit → Act → World → Prop} (hg : o.guard = none) (x y : Operand) (ho : o.op = .build 42 #[(0, x), (1, y)]) (t : Int) (hx : a.eval x = .int .i64 7) (hy : a.eval y = .int .i64 t)
    (k : wpList Tryz.prog ops Q rest (a.put o.dst (.agg (gca (barG t)))) w) : wpList Tryz.prog ops Q (o :: rest) a w := by
  have e : ((#[(0, x), (1, y)] : Array (Nat × Operand)).map fun (p : Nat × Operand) => (p.1, a.eval p.2)).toList = [(0, .int .i64 7), (1, .int .i64 t)] := by simp [hx, hy]
  have e' := congrArg (Tryz.prog.built 42) e
  rw [builtBar] at e'
  refine wpList_build hg 42 _ ho (by rw [e']; rfl) ?_
  rw [e']
  exact k
set_option maxHeartbeats 2000000 in
set_option maxRecDepth 100000 in
theorem un_take_no (x : Um) (B k : Nat) (hF : FitM k x) (hk : k + 1 ≤ 9000) (g : Gm) (hw : WfMs g.u) (w : World) (h : UniA B x w) (hi : InG g w) (hs : StM B g.mod w) (ht : Tab w) (hz : 0 < B) (hsnd : sndMs g.u = false) :
    Calls Tryz.prog 19 #[.pointer (some ⟨x.p, 0, none⟩), .agg (gca g)] w (TakeRet x B g w) := by
  have R0 := Lib.hid (Blk.new w (gca g) 42)
  have HB0 := Lib.hid (below1 w (.cells (gca g) 42))
  have HU0 := Lib.hid (h.below HB0.out)
  have HI0 := Lib.hid (hs.below HB0.out)
  have HN0 := Lib.hid (show w.heap.size ∉ x.muts from fun hm => by have := h.muts.lt _ hm; omega)
  have HT0 := Lib.hid (Env.at_ ht hz (HB0.out.mono (by have := h.lt; have := h.ge; omega)) (by have := h.lt; have := h.ge; omega))
  have HSo := Lib.hid (msnd_any g hw _ (hi.below HB0.out) HT0.out.1 HT0.out.2)
  have HF := Lib.hid hF
  have HK := Lib.hid hk
  have HWM := Lib.hid hw.mod
  have HZ := Lib.hid hz
  have HSND := Lib.hid hsnd
  rw [hsnd] at HSo
  clear h hi hs ht hF hk hw hsnd
  go_enter Tryz.func19, Tryz.ntmps19
  obtain ⟨b0, hb0⟩ : ∃ b0, b0 = w.heap.size := ⟨_, rfl⟩
  rw [← hb0] at R0 HN0
  go_upto_region 1 with fail
  rw [← hb0]
  clear hb0
  generalize hW0 : w.alloc (.cells (gca g) 42) = w0 at *
  clear hW0
  go_upto_region 4 with (first
    | (refine wpList_load_row rfl 42 _ rfl b0 rfl 42 (gca g) (0, 0) _ R0.out Tryz.underlying42 rfl infoG ?_)
    | (go_at_call 39; refine HSo.out.mono ?_; rintro e w1 ⟨rfl, hw1⟩; refine Hid.out ?_))
  have R1 := Lib.hid (R0.out.below hw1)
  have HU1 := Lib.hid (HU0.out.below hw1)
  have HI1 := Lib.hid (HI0.out.below hw1)
  have HT1 := Lib.hid (show Tab w1 ∧ 0 < w1.heap.size from ⟨HT0.out.1.below HT0.out.2 hw1, by have := hw1.size; have := HT0.out.2; omega⟩)
  have HB1 := Lib.hid (HB0.out.trans (hw1.mono HB0.out.size))
  have k0 := R1.out.cellsG.kind
  have k1 := R1.out.cellsG.txn
  clear hw1 R0 HU0 HI0 HT0 HB0 HSo
  refine Lib.hid ?_
  have HR := Lib.hid (un_refusal g.txn 2 w1)
  go_wp2_with (go_at_call 40; refine HR.out.mono ?_; rintro e w2 ⟨va, gs, rfl, hgs, hav, hw2⟩)
  go_ret
  exact ⟨x, _, gs, rfl, by rw [hgs, takeA_no HSND.out]; rfl, hav.mono HB1.out.size, (takeS_no HSND.out).symm, HU1.out.below hw2, rfl, UFr.of x (HB1.out.trans (hw2.mono HB1.out.size))⟩
set_option maxHeartbeats 2000000 in
set_option maxRecDepth 100000 in
theorem un_take_mod (x : Um) (B k : Nat) (hF : FitM k x) (hk : k + 1 ≤ 9000) (g : Gm) (hw : WfMs g.u) (w : World) (h : UniA B x w) (hi : InG g w) (hs : StM B g.mod w) (ht : Tab w) (hz : 0 < B) (hsnd : sndMs g.u = true) (hkd : g.kind = 1) :
    Calls Tryz.prog 19 #[.pointer (some ⟨x.p, 0, none⟩), .agg (gca g)] w (TakeRet x B g w) := by
  have hk1 : (g.kind == 1) = true := by rw [hkd]; rfl
  have hk2 : (g.kind == 2) = false := by rw [hkd]; rfl
  have hk5 : (g.kind == 5) = false := by rw [hkd]; rfl
  have hk3 : (g.kind == 3) = false := by rw [hkd]; rfl
  have hk4 : (g.kind == 4) = false := by rw [hkd]; rfl
  have HKD := Lib.hid hkd
  clear hkd
  have R0 := Lib.hid (Blk.new w (gca g) 42)
  have HB0 := Lib.hid (below1 w (.cells (gca g) 42))
  have HU0 := Lib.hid (h.below HB0.out)
  have HI0 := Lib.hid (hs.below HB0.out)
  have HN0 := Lib.hid (show w.heap.size ∉ x.muts from fun hm => by have := h.muts.lt _ hm; omega)
  have HT0 := Lib.hid (Env.at_ ht hz (HB0.out.mono (by have := h.lt; have := h.ge; omega)) (by have := h.lt; have := h.ge; omega))
  have HSo := Lib.hid (msnd_any g hw _ (hi.below HB0.out) HT0.out.1 HT0.out.2)
  have HF := Lib.hid hF
  have HK := Lib.hid hk
  have HWM := Lib.hid hw.mod
  have HZ := Lib.hid hz
  have HSND := Lib.hid hsnd
  rw [hsnd] at HSo
  clear h hi hs ht hF hk hw hsnd
  go_enter Tryz.func19, Tryz.ntmps19
  obtain ⟨b0, hb0⟩ : ∃ b0, b0 = w.heap.size := ⟨_, rfl⟩
  rw [← hb0] at R0 HN0
  go_upto_region 1 with fail
  rw [← hb0]
  clear hb0
  generalize hW0 : w.alloc (.cells (gca g) 42) = w0 at *
  clear hW0
  go_upto_region 5 with (first
    | (refine wpList_load_row rfl 42 _ rfl b0 rfl 42 (gca g) (0, 0) _ R0.out Tryz.underlying42 rfl infoG ?_)
    | (go_at_call 39; refine HSo.out.mono ?_; rintro e w1 ⟨rfl, hw1⟩; refine Hid.out ?_))
  have R1 := Lib.hid (R0.out.below hw1)
  have HU1 := Lib.hid (HU0.out.below hw1)
  have HI1 := Lib.hid (HI0.out.below hw1)
  have HT1 := Lib.hid (show Tab w1 ∧ 0 < w1.heap.size from ⟨HT0.out.1.below HT0.out.2 hw1, by have := hw1.size; have := HT0.out.2; omega⟩)
  have HB1 := Lib.hid (HB0.out.trans (hw1.mono HB0.out.size))
  have k0 := R1.out.cellsG.kind
  have k1 := R1.out.cellsG.txn
  clear hw1 R0 HU0 HI0 HT0 HB0 HSo
  refine Lib.hid ?_
  go_upto_region 7 with fail
  have HBW := Lib.hid (HB1.out.trans ((show Below w1.heap.size w1 w1.drew from (Below.refl _ _).drew).mono HB1.out.size))
  have HU := Lib.hid (HU1.out.below (show Below w1.heap.size w1 w1.drew from (Below.refl _ _).drew))
  have HI := Lib.hid (HI1.out.below (show Below w1.heap.size w1 w1.drew from (Below.refl _ _).drew))
  have HT := Lib.hid (show Tab w1.drew ∧ 0 < w1.drew.heap.size from ⟨HT1.out.1.below HT1.out.2 (Below.refl _ _).drew, HT1.out.2⟩)
  have HN := HN0
  refine wp_region_held_drew (S := fun W' => Blk b0 (gca g) 42 W') (by kernel_rfl) (show Blk b0 (gca g) 42 w1.drew from R1.out.drew) (fun hS => ?_)
  clear k0 k1 R1 HU1 HI1 HT1 HB1 HN0
  generalize w1.drew = W at *
  refine seqRead 0 (v := _) rfl (by kernel_rfl) (by kernel_rfl) (by kernel_rfl) (fun _ _ _ h => h) rfl (fun w hSw => by go_simp <;> with_reducible rfl) hS ?_
  try simp only [Act.put, List.setIfInBounds_toArray, List.set_cons_zero, List.set_cons_succ]
  refine seqRead 1 (v := _) rfl (by kernel_rfl) (by kernel_rfl) (by kernel_rfl) (fun _ _ _ h => h) rfl (fun w hSw => by have c := hSw.cellsG.txn; go_simp <;> with_reducible rfl) hS ?_
  try simp only [Act.put, List.setIfInBounds_toArray, List.set_cons_zero, List.set_cons_succ]
  refine seqRead 2 (v := _) rfl (by kernel_rfl) (by kernel_rfl) (by kernel_rfl) (fun _ _ _ h => h) rfl (fun w hSw => by go_simp <;> with_reducible rfl) hS ?_
  try simp only [Act.put, List.setIfInBounds_toArray, List.set_cons_zero, List.set_cons_succ]
  refine seqRead 3 (v := _) rfl (by kernel_rfl) (by kernel_rfl) (by kernel_rfl) (fun _ _ _ h => h) rfl (fun w hSw => by go_simp <;> with_reducible rfl) hS ?_
  try simp only [Act.put, List.setIfInBounds_toArray, List.set_cons_zero, List.set_cons_succ]
  refine seqRead 4 (v := _) rfl (by kernel_rfl) (by kernel_rfl) (by kernel_rfl) (fun _ _ _ h => h) rfl (fun w hSw => by have c := hSw.cellsG.txn; go_simp <;> with_reducible rfl) hS ?_
  try simp only [Act.put, List.setIfInBounds_toArray, List.set_cons_zero, List.set_cons_succ]
  refine seqRead 5 (v := _) rfl (by kernel_rfl) (by kernel_rfl) (by kernel_rfl) (fun _ _ _ h => h) rfl (fun w hSw => by go_simp <;> with_reducible rfl) hS ?_
  try simp only [Act.put, List.setIfInBounds_toArray, List.set_cons_zero, List.set_cons_succ]
  refine seqRead 6 (v := _) rfl (by kernel_rfl) (by kernel_rfl) (by kernel_rfl) (fun _ _ _ h => h) rfl (fun w hSw => (show (execOp _ _).run _ w = .ok (.value (.agg (mca g.mod))) w from execRow rfl b0 3 rfl (mcl g.mod) _ hSw.cellsG.mod Tryz.underlying40 rfl infoMod)) hS ?_
  try simp only [Act.put, List.setIfInBounds_toArray, List.set_cons_zero, List.set_cons_succ]
  refine seqCall 7 rfl (by kernel_rfl) rfl (fun K hK => ?_)
  go_simp
  refine (un_change x B k g.txn HF.out HK.out g.mod HWM.out W HU.out HI.out HT.out.1 HZ.out).mono ?_
  rintro e w2 ⟨x2, rfl, hun2, hU2, hp2, hf2⟩
  obtain ⟨R2', hn2⟩ := (show Blk b0 (gca g) 42 W from hS).ufr hf2 HN.out
  have HUN := Lib.hid hun2
  have HU2 := Lib.hid hU2
  have HP2 := Lib.hid hp2
  have HF2 := Lib.hid hf2
  refine hK.out _ _ R2' (fun hS => ?_)
  clear hK K hun2 hU2 hp2 hf2 R2' hn2
  try simp only [Act.put, List.setIfInBounds_toArray, List.set_cons_zero, List.set_cons_succ]
  refine seqCall 8 rfl (by kernel_rfl) rfl (fun K hK => ?_)
  go_simp
  refine (un_refusal g.txn (chgE x.un g.txn g.mod.u) w2).mono ?_
  rintro e w3 ⟨va, gs, rfl, hgs, hav, hw3⟩
  have HGS := Lib.hid hgs
  have HAV := Lib.hid (hav.mono HF2.out.fr.size)
  have HU3 := Lib.hid (HU2.out.below hw3)
  have HF3 := Lib.hid (HF2.out.trans (UFr.of x2 hw3))
  refine hK.out _ _ ((show Blk b0 (gca g) 42 w2 from hS).below hw3) (fun hS => ?_)
  clear hK K hgs hav hw3
  try simp only [Act.put, List.setIfInBounds_toArray, List.set_cons_zero, List.set_cons_succ]
  refine seqRead 9 (v := _) rfl (by kernel_rfl) (by kernel_rfl) (by kernel_rfl) (fun _ _ _ h => h) rfl (fun w hSw => by go_simp <;> with_reducible rfl) hS ?_
  try simp only [Act.put, List.setIfInBounds_toArray, List.set_cons_zero, List.set_cons_succ]
  refine seqDone (by kernel_rfl) ?_
  clear hS
  go_wp2_with fail
  go_ret
  exact ⟨x2, _, gs, rfl, by rw [HGS.out, takeA_mod HSND.out HKD.out]; rfl, HAV.out.mono HBW.out.size, by rw [HUN.out, takeS_mod HSND.out HKD.out]; rfl, HU3.out, HP2.out, (UFr.of x HBW.out).trans HF3.out⟩
set_option maxHeartbeats 2000000 in
set_option maxRecDepth 100000 in
theorem un_take_bar (x : Um) (B k : Nat) (hF : FitM k x) (hk : k + 1 ≤ 9000) (g : Gm) (hw : WfMs g.u) (w : World) (h : UniA B x w) (hi : InG g w) (hs : StM B g.mod w) (ht : Tab w) (hz : 0 < B) (hsnd : sndMs g.u = true) (hkd : g.kind = 2) :
    Calls Tryz.prog 19 #[.pointer (some ⟨x.p, 0, none⟩), .agg (gca g)] w (TakeRet x B g w) := by
  have hk1 : (g.kind == 1) = false := by rw [hkd]; rfl
  have hk2 : (g.kind == 2) = true := by rw [hkd]; rfl
  have hk5 : (g.kind == 5) = false := by rw [hkd]; rfl
  have hk3 : (g.kind == 3) = false := by rw [hkd]; rfl
  have hk4 : (g.kind == 4) = false := by rw [hkd]; rfl
  have HKD := Lib.hid hkd
  clear hkd
  have R0 := Lib.hid (Blk.new w (gca g) 42)
  have HB0 := Lib.hid (below1 w (.cells (gca g) 42))
  have HU0 := Lib.hid (h.below HB0.out)
  have HI0 := Lib.hid (hs.below HB0.out)
  have HN0 := Lib.hid (show w.heap.size ∉ x.muts from fun hm => by have := h.muts.lt _ hm; omega)
  have HT0 := Lib.hid (Env.at_ ht hz (HB0.out.mono (by have := h.lt; have := h.ge; omega)) (by have := h.lt; have := h.ge; omega))
  have HSo := Lib.hid (msnd_any g hw _ (hi.below HB0.out) HT0.out.1 HT0.out.2)
  have HF := Lib.hid hF
  have HK := Lib.hid hk
  have HWM := Lib.hid hw.mod
  have HZ := Lib.hid hz
  have HSND := Lib.hid hsnd
  rw [hsnd] at HSo
  clear h hi hs ht hF hk hw hsnd
  go_enter Tryz.func19, Tryz.ntmps19
  obtain ⟨b0, hb0⟩ : ∃ b0, b0 = w.heap.size := ⟨_, rfl⟩
  rw [← hb0] at R0 HN0
  go_upto_region 1 with fail
  rw [← hb0]
  clear hb0
  generalize hW0 : w.alloc (.cells (gca g) 42) = w0 at *
  clear hW0
  go_upto_region 5 with (first
    | (refine wpList_load_row rfl 42 _ rfl b0 rfl 42 (gca g) (0, 0) _ R0.out Tryz.underlying42 rfl infoG ?_)
    | (go_at_call 39; refine HSo.out.mono ?_; rintro e w1 ⟨rfl, hw1⟩; refine Hid.out ?_))
  have R1 := Lib.hid (R0.out.below hw1)
  have HU1 := Lib.hid (HU0.out.below hw1)
  have HI1 := Lib.hid (HI0.out.below hw1)
  have HT1 := Lib.hid (show Tab w1 ∧ 0 < w1.heap.size from ⟨HT0.out.1.below HT0.out.2 hw1, by have := hw1.size; have := HT0.out.2; omega⟩)
  have HB1 := Lib.hid (HB0.out.trans (hw1.mono HB0.out.size))
  have k0 := R1.out.cellsG.kind
  have k1 := R1.out.cellsG.txn
  clear hw1 R0 HU0 HI0 HT0 HB0 HSo
  refine Lib.hid ?_
  have RG := Lib.hid (Blk.new w1 (gca (barG g.txn)) KG.T)
  have HBG := Lib.hid (below1 w1 (.cells (gca (barG g.txn)) KG.T))
  go_wp2_with (first
    | (refine buildBar rfl _ _ rfl g.txn rfl rfl ?_)
    | (refine kbuildOne KG okG #[Value.int IntKind.i64 0, Value.int IntKind.i64 0, Value.int IntKind.i64 0, Value.int IntKind.i64 0, Value.int IntKind.u64 0, Value.int IntKind.u64 0, Value.int IntKind.u64 0, Value.int IntKind.u64 0, Value.int IntKind.u64 0, Value.int IntKind.u64 0, Value.int IntKind.u64 0, Value.int IntKind.u64 0, Value.int IntKind.u64 0, Value.int IntKind.u64 0, Value.int IntKind.u64 0, Value.int IntKind.u64 0, Value.int IntKind.u64 0, Value.int IntKind.u64 0, Value.int IntKind.u64 0, Value.int IntKind.u64 0, Value.int IntKind.u64 0, Value.int IntKind.u64 0, Value.int IntKind.u64 0, Value.int IntKind.u64 0, Value.int IntKind.u64 0, Value.int IntKind.u64 0, Value.int IntKind.u64 0, Value.int IntKind.u64 0, Value.int IntKind.i64 0, Value.slice none 0 0, Value.int IntKind.i64 0, Value.int IntKind.i64 0, Value.int IntKind.i64 0, Value.bool false, Value.int IntKind.i64 0, Value.int IntKind.u64 0, Value.int IntKind.u64 0, Value.int IntKind.u64 0, Value.int IntKind.u64 0, Value.int IntKind.u64 0, Value.int IntKind.u64 0, Value.int IntKind.u64 0, Value.int IntKind.u64 0, Value.int IntKind.u64 0, Value.int IntKind.u64 0, Value.int IntKind.u64 0, Value.int IntKind.u64 0, Value.slice none 0 0] zeroG rfl _ rfl (gca (barG g.txn)) rfl (by decide) (fillG1 _) ?_))
  go_ret
  exact ⟨x, _, [barG g.txn], rfl, by rw [takeA_bar HSND.out HKD.out]; rfl, AnsL.one (oneG1 RG.out HB1.out.size) ⟨zM_own _ _, OL.nil _ _⟩, (takeS_oth (by rw [show g.u.kind = 2 from HKD.out]; decide) (by rw [show g.u.kind = 2 from HKD.out]; decide) (by rw [show g.u.kind = 2 from HKD.out]; decide)).symm, HU1.out.below HBG.out, rfl, UFr.of x (HB1.out.trans (HBG.out.mono HB1.out.size))⟩
set_option maxHeartbeats 2000000 in
set_option maxRecDepth 100000 in
theorem un_take_ask (x : Um) (B k : Nat) (hF : FitM k x) (hk : k + 1 ≤ 9000) (g : Gm) (hw : WfMs g.u) (w : World) (h : UniA B x w) (hi : InG g w) (hs : StM B g.mod w) (ht : Tab w) (hz : 0 < B) (hsnd : sndMs g.u = true) (hkd : g.kind = 5) :
    Calls Tryz.prog 19 #[.pointer (some ⟨x.p, 0, none⟩), .agg (gca g)] w (TakeRet x B g w) := by
  have hk1 : (g.kind == 1) = false := by rw [hkd]; rfl
  have hk2 : (g.kind == 2) = false := by rw [hkd]; rfl
  have hk5 : (g.kind == 5) = true := by rw [hkd]; rfl
  have hk3 : (g.kind == 3) = false := by rw [hkd]; rfl
  have hk4 : (g.kind == 4) = false := by rw [hkd]; rfl
  have HKD := Lib.hid hkd
  clear hkd
  have R0 := Lib.hid (Blk.new w (gca g) 42)
  have HB0 := Lib.hid (below1 w (.cells (gca g) 42))
  have HU0 := Lib.hid (h.below HB0.out)
  have HI0 := Lib.hid (hs.below HB0.out)
  have HN0 := Lib.hid (show w.heap.size ∉ x.muts from fun hm => by have := h.muts.lt _ hm; omega)
  have HT0 := Lib.hid (Env.at_ ht hz (HB0.out.mono (by have := h.lt; have := h.ge; omega)) (by have := h.lt; have := h.ge; omega))
  have HSo := Lib.hid (msnd_any g hw _ (hi.below HB0.out) HT0.out.1 HT0.out.2)
  have HF := Lib.hid hF
  have HK := Lib.hid hk
  have HWM := Lib.hid hw.mod
  have HZ := Lib.hid hz
  have HSND := Lib.hid hsnd
  rw [hsnd] at HSo
  clear h hi hs ht hF hk hw hsnd
  go_enter Tryz.func19, Tryz.ntmps19
  obtain ⟨b0, hb0⟩ : ∃ b0, b0 = w.heap.size := ⟨_, rfl⟩
  rw [← hb0] at R0 HN0
  go_upto_region 1 with fail
  rw [← hb0]
  clear hb0
  generalize hW0 : w.alloc (.cells (gca g) 42) = w0 at *
  clear hW0
  go_upto_region 5 with (first
    | (refine wpList_load_row rfl 42 _ rfl b0 rfl 42 (gca g) (0, 0) _ R0.out Tryz.underlying42 rfl infoG ?_)
    | (go_at_call 39; refine HSo.out.mono ?_; rintro e w1 ⟨rfl, hw1⟩; refine Hid.out ?_))
  have R1 := Lib.hid (R0.out.below hw1)
  have HU1 := Lib.hid (HU0.out.below hw1)
  have HI1 := Lib.hid (HI0.out.below hw1)
  have HT1 := Lib.hid (show Tab w1 ∧ 0 < w1.heap.size from ⟨HT0.out.1.below HT0.out.2 hw1, by have := hw1.size; have := HT0.out.2; omega⟩)
  have HB1 := Lib.hid (HB0.out.trans (hw1.mono HB0.out.size))
  have k0 := R1.out.cellsG.kind
  have k1 := R1.out.cellsG.txn
  clear hw1 R0 HU0 HI0 HT0 HB0 HSo
  refine Lib.hid ?_
  go_upto_region 11 with fail
  have HBW := Lib.hid (HB1.out.trans ((show Below w1.heap.size w1 w1.drew from (Below.refl _ _).drew).mono HB1.out.size))
  have HU := Lib.hid (HU1.out.below (show Below w1.heap.size w1 w1.drew from (Below.refl _ _).drew))
  have HI := Lib.hid (HI1.out.below (show Below w1.heap.size w1 w1.drew from (Below.refl _ _).drew))
  have HT := Lib.hid (show Tab w1.drew ∧ 0 < w1.drew.heap.size from ⟨HT1.out.1.below HT1.out.2 (Below.refl _ _).drew, HT1.out.2⟩)
  have HN := HN0
  refine wp_region_held_drew (S := fun W' => Blk b0 (gca g) 42 W') (by kernel_rfl) (show Blk b0 (gca g) 42 w1.drew from R1.out.drew) (fun hS => ?_)
  clear k0 k1 R1 HU1 HI1 HT1 HB1 HN0
  generalize w1.drew = W at *
  refine seqRead 0 (v := _) rfl (by kernel_rfl) (by kernel_rfl) (by kernel_rfl) (fun _ _ _ h => h) rfl (fun w hSw => by go_simp <;> with_reducible rfl) hS ?_
  try simp only [Act.put, List.setIfInBounds_toArray, List.set_cons_zero, List.set_cons_succ]
  refine seqRead 1 (v := _) rfl (by kernel_rfl) (by kernel_rfl) (by kernel_rfl) (fun _ _ _ h => h) rfl (fun w hSw => by have c := hSw.cellsG.txn; go_simp <;> with_reducible rfl) hS ?_
  try simp only [Act.put, List.setIfInBounds_toArray, List.set_cons_zero, List.set_cons_succ]
  refine seqRead 2 (v := _) rfl (by kernel_rfl) (by kernel_rfl) (by kernel_rfl) (fun _ _ _ h => h) rfl (fun w hSw => by go_simp <;> with_reducible rfl) hS ?_
  try simp only [Act.put, List.setIfInBounds_toArray, List.set_cons_zero, List.set_cons_succ]
  refine seqCall 3 rfl (by kernel_rfl) rfl (fun K hK => ?_)
  go_simp
  refine (un_base x B k HF.out W HU.out).mono ?_
  rintro e w2 ⟨vb, Lb, rfl, hub, hob, hw2⟩
  obtain ⟨qb, cb, eb⟩ := hob.1.form
  subst eb
  have HUB := Lib.hid hub
  have HOB := Lib.hid hob
  have HB2 := Lib.hid hw2
  refine hK.out _ _ ((show Blk b0 (gca g) 42 W from hS).below hw2) (fun hS => ?_)
  clear hK K hub hob hw2
  try simp only [Act.put, List.setIfInBounds_toArray, List.set_cons_zero, List.set_cons_succ]
  refine seqRead 4 (v := _) rfl (by kernel_rfl) (by kernel_rfl) (by kernel_rfl) (fun _ _ _ h => h) rfl (fun w hSw => (show (execOp _ _).run _ w = .ok (.value (.agg (gca (staG g.txn qb Lb cb)))) w from execSta rfl g.txn qb Lb cb rfl rfl rfl)) hS ?_
  try simp only [Act.put, List.setIfInBounds_toArray, List.set_cons_zero, List.set_cons_succ]
  refine seqCall 5 rfl (by kernel_rfl) rfl (fun K hK => ?_)
  refine kbuildOneWp KG okG #[Value.int IntKind.i64 0, Value.int IntKind.i64 0, Value.int IntKind.i64 0, Value.int IntKind.i64 0, Value.int IntKind.u64 0, Value.int IntKind.u64 0, Value.int IntKind.u64 0, Value.int IntKind.u64 0, Value.int IntKind.u64 0, Value.int IntKind.u64 0, Value.int IntKind.u64 0, Value.int IntKind.u64 0, Value.int IntKind.u64 0, Value.int IntKind.u64 0, Value.int IntKind.u64 0, Value.int IntKind.u64 0, Value.int IntKind.u64 0, Value.int IntKind.u64 0, Value.int IntKind.u64 0, Value.int IntKind.u64 0, Value.int IntKind.u64 0, Value.int IntKind.u64 0, Value.int IntKind.u64 0, Value.int IntKind.u64 0, Value.int IntKind.u64 0, Value.int IntKind.u64 0, Value.int IntKind.u64 0, Value.int IntKind.u64 0, Value.int IntKind.i64 0, Value.slice none 0 0, Value.int IntKind.i64 0, Value.int IntKind.i64 0, Value.int IntKind.i64 0, Value.bool false, Value.int IntKind.i64 0, Value.int IntKind.u64 0, Value.int IntKind.u64 0, Value.int IntKind.u64 0, Value.int IntKind.u64 0, Value.int IntKind.u64 0, Value.int IntKind.u64 0, Value.int IntKind.u64 0, Value.int IntKind.u64 0, Value.int IntKind.u64 0, Value.int IntKind.u64 0, Value.int IntKind.u64 0, Value.int IntKind.u64 0, Value.slice none 0 0] zeroG (.tmp 38) rfl (gca (staG g.txn qb Lb cb)) rfl (by decide) (fillG1 _) ?_
  have RG := Lib.hid (Blk.new w2 (gca (staG g.txn qb Lb cb)) KG.T)
  have HB3 := Lib.hid (below1 w2 (.cells (gca (staG g.txn qb Lb cb)) KG.T))
  refine hK.out _ _ ((show Blk b0 (gca g) 42 w2 from hS).below HB3.out) (fun hS => ?_)
  clear hK K
  generalize hW3 : w2.alloc (.cells (gca (staG g.txn qb Lb cb)) KG.T) = w3 at *
  clear hW3
  try simp only [Act.put, List.setIfInBounds_toArray, List.set_cons_zero, List.set_cons_succ]
  refine seqRead 6 (v := _) rfl (by kernel_rfl) (by kernel_rfl) (by kernel_rfl) (fun _ _ _ h => h) rfl (fun w hSw => by go_simp <;> with_reducible rfl) hS ?_
  try simp only [Act.put, List.setIfInBounds_toArray, List.set_cons_zero, List.set_cons_succ]
  refine seqDone (by kernel_rfl) ?_
  clear hS
  have HBZ := Lib.hid (HB2.out.trans (HB3.out.mono HB2.out.size))
  go_wp2_with fail
  go_ret
  exact ⟨x, _, [staG g.txn qb Lb cb], rfl, by rw [takeA_ask HSND.out HKD.out, ← HUB.out]; rfl, AnsL.one (oneG1 RG.out (Nat.le_trans HBW.out.size HB2.out.size)) ⟨zM_own _ _, (HOB.out.below HB3.out).mono HBW.out.size⟩, (takeS_oth (by rw [show g.u.kind = 5 from HKD.out]; decide) (by rw [show g.u.kind = 5 from HKD.out]; decide) (by rw [show g.u.kind = 5 from HKD.out]; decide)).symm, HU.out.below HBZ.out, rfl, UFr.of x (HBW.out.trans (HBZ.out.mono HBW.out.size))⟩
set_option maxHeartbeats 2000000 in
set_option maxRecDepth 100000 in
theorem un_take_com (x : Um) (B k : Nat) (hF : FitM k x) (hk : k + 1 ≤ 9000) (g : Gm) (hw : WfMs g.u) (w : World) (h : UniA B x w) (hi : InG g w) (hs : StM B g.mod w) (ht : Tab w) (hz : 0 < B) (hsnd : sndMs g.u = true) (hkd : g.kind = 3) :
    Calls Tryz.prog 19 #[.pointer (some ⟨x.p, 0, none⟩), .agg (gca g)] w (TakeRet x B g w) := by
  have hk1 : (g.kind == 1) = false := by rw [hkd]; rfl
  have hk2 : (g.kind == 2) = false := by rw [hkd]; rfl
  have hk5 : (g.kind == 5) = false := by rw [hkd]; rfl
  have hk3 : (g.kind == 3) = true := by rw [hkd]; rfl
  have hk4 : (g.kind == 4) = false := by rw [hkd]; rfl
  have HKD := Lib.hid hkd
  clear hkd
  obtain ⟨pb, cb, hvb⟩ := h.base.1.form
  have HVB := Lib.hid hvb
  have HLN := Lib.hid (show x.ts.length ≤ 100000 by have := hF.len; omega)
  have HLM := Lib.hid (show ∀ ms : List Mm, ms.map (·.u) = endB x.un g.txn → x.L.length + ms.length ≤ 40000 from fun ms hm => by
    have h1 := end_len x.un g.txn
    have h2 := congrArg List.length hm
    have h3 := hF.fit.size
    have h4 := hF.n
    have h5 : x.un.base.length = x.L.length := List.length_map ..
    rw [List.length_map] at h2
    omega)
  have HWB := Lib.hid hF.wfR
  have HWC := Lib.hid (show ∀ ms : List Mm, ms.map (·.u) = endB x.un g.txn → WfML ms from fun ms hm m hmm => hF.fit.chg m.u (endB_mem x.un g.txn m.u (by rw [← hm]; exact List.mem_map_of_mem hmm)))
  clear hvb
  have R0 := Lib.hid (Blk.new w (gca g) 42)
  have HB0 := Lib.hid (below1 w (.cells (gca g) 42))
  have HU0 := Lib.hid (h.below HB0.out)
  have HI0 := Lib.hid (hs.below HB0.out)
  have HN0 := Lib.hid (show w.heap.size ∉ x.muts from fun hm => by have := h.muts.lt _ hm; omega)
  have HT0 := Lib.hid (Env.at_ ht hz (HB0.out.mono (by have := h.lt; have := h.ge; omega)) (by have := h.lt; have := h.ge; omega))
  have HSo := Lib.hid (msnd_any g hw _ (hi.below HB0.out) HT0.out.1 HT0.out.2)
  have HF := Lib.hid hF
  have HK := Lib.hid hk
  have HWM := Lib.hid hw.mod
  have HZ := Lib.hid hz
  have HSND := Lib.hid hsnd
  rw [hsnd] at HSo
  clear h hi hs ht hF hk hw hsnd
  go_enter Tryz.func19, Tryz.ntmps19
  obtain ⟨b0, hb0⟩ : ∃ b0, b0 = w.heap.size := ⟨_, rfl⟩
  rw [← hb0] at R0 HN0
  go_upto_region 1 with fail
  rw [← hb0]
  clear hb0
  generalize hW0 : w.alloc (.cells (gca g) 42) = w0 at *
  clear hW0
  go_upto_region 5 with (first
    | (refine wpList_load_row rfl 42 _ rfl b0 rfl 42 (gca g) (0, 0) _ R0.out Tryz.underlying42 rfl infoG ?_)
    | (go_at_call 39; refine HSo.out.mono ?_; rintro e w1 ⟨rfl, hw1⟩; refine Hid.out ?_))
  have R1 := Lib.hid (R0.out.below hw1)
  have HU1 := Lib.hid (HU0.out.below hw1)
  have HI1 := Lib.hid (HI0.out.below hw1)
  have HT1 := Lib.hid (show Tab w1 ∧ 0 < w1.heap.size from ⟨HT0.out.1.below HT0.out.2 hw1, by have := hw1.size; have := HT0.out.2; omega⟩)
  have HB1 := Lib.hid (HB0.out.trans (hw1.mono HB0.out.size))
  have k0 := R1.out.cellsG.kind
  have k1 := R1.out.cellsG.txn
  clear hw1 R0 HU0 HI0 HT0 HB0 HSo
  refine Lib.hid ?_
  go_upto_region 13 with fail
  have HBW := Lib.hid (HB1.out.trans ((show Below w1.heap.size w1 w1.drew from (Below.refl _ _).drew).mono HB1.out.size))
  have HU := Lib.hid (HU1.out.below (show Below w1.heap.size w1 w1.drew from (Below.refl _ _).drew))
  have HI := Lib.hid (HI1.out.below (show Below w1.heap.size w1 w1.drew from (Below.refl _ _).drew))
  have HT := Lib.hid (show Tab w1.drew ∧ 0 < w1.drew.heap.size from ⟨HT1.out.1.below HT1.out.2 (Below.refl _ _).drew, HT1.out.2⟩)
  have HN := HN0
  refine wp_region_held_drew (S := fun W' => Blk b0 (gca g) 42 W') (by kernel_rfl) (show Blk b0 (gca g) 42 w1.drew from R1.out.drew) (fun hS => ?_)
  clear k0 k1 R1 HU1 HI1 HT1 HB1 HN0
  generalize w1.drew = W at *
  refine seqRead 0 (v := _) rfl (by kernel_rfl) (by kernel_rfl) (by kernel_rfl) (fun _ _ _ h => h) rfl (fun w hSw => by go_simp <;> with_reducible rfl) hS ?_
  try simp only [Act.put, List.setIfInBounds_toArray, List.set_cons_zero, List.set_cons_succ]
  refine seqRead 1 (v := _) rfl (by kernel_rfl) (by kernel_rfl) (by kernel_rfl) (fun _ _ _ h => h) rfl (fun w hSw => by go_simp <;> with_reducible rfl) hS ?_
  try simp only [Act.put, List.setIfInBounds_toArray, List.set_cons_zero, List.set_cons_succ]
  refine seqRead 2 (v := _) rfl (by kernel_rfl) (by kernel_rfl) (by kernel_rfl) (fun _ _ _ h => h) rfl (fun w hSw => by go_simp <;> with_reducible rfl) hS ?_
  try simp only [Act.put, List.setIfInBounds_toArray, List.set_cons_zero, List.set_cons_succ]
  refine seqRead 3 (v := _) rfl (by kernel_rfl) (by kernel_rfl) (by kernel_rfl) (fun _ _ _ h => h) rfl (fun w hSw => by go_simp <;> with_reducible rfl) hS ?_
  try simp only [Act.put, List.setIfInBounds_toArray, List.set_cons_zero, List.set_cons_succ]
  refine seqRead 5 (v := _) rfl (by kernel_rfl) (by kernel_rfl) (by kernel_rfl) (fun _ _ _ h => h) rfl (fun w hSw => by go_simp <;> with_reducible rfl) hS ?_
  try simp only [Act.put, List.setIfInBounds_toArray, List.set_cons_zero, List.set_cons_succ]
  refine seqRead 6 (v := _) rfl (by kernel_rfl) (by kernel_rfl) (by kernel_rfl) (fun _ _ _ h => h) rfl (fun w hSw => by go_simp <;> with_reducible rfl) hS ?_
  try simp only [Act.put, List.setIfInBounds_toArray, List.set_cons_zero, List.set_cons_succ]
  refine seqRead 7 (v := _) rfl (by kernel_rfl) (by kernel_rfl) (by kernel_rfl) (fun _ _ _ h => h) rfl (fun w hSw => by have c := hSw.cellsG.txn; go_simp <;> with_reducible rfl) hS ?_
  try simp only [Act.put, List.setIfInBounds_toArray, List.set_cons_zero, List.set_cons_succ]
  refine seqActs2 4 8 rfl rfl (by kernel_rfl) rfl (fun K hK => ?_) rfl (fun K hK => ?_)
  · have c1 : W.cell? ⟨x.p, 1, none⟩ = some (.slice pb x.L.length cb) := by rw [← HVB.out]; exact HU.out.vb_
    refine rdWp (.slice pb x.L.length cb) (by go_simp <;> with_reducible rfl) ?_
    refine hK.out _ _ hS (fun hS => ?_)
    clear hK K c1
    try simp only [Act.put, List.setIfInBounds_toArray, List.set_cons_zero, List.set_cons_succ]
    refine seqCall 8 rfl (by kernel_rfl) rfl (fun K hK => ?_)
    go_simp
    refine (un_end x B g.txn HLN.out W HU.out).mono ?_
    rintro e w2 ⟨vc, vo2, ms, ts2, rfl, hoc, hac, hmu, htx, hU2, hf2⟩
    have HOC := Lib.hid (And.intro hoc hac)
    have HMU := Lib.hid hmu
    have HTX := Lib.hid htx
    have HU2 := Lib.hid hU2
    have HF2 := Lib.hid hf2
    have HT2 := Lib.hid (hf2.env HU.out HT.out.1 HZ.out)
    refine hK.out _ _ ((show Blk b0 (gca g) 42 W from hS).ufr hf2 HN.out).1 (fun hS => ?_)
    clear hK K hoc hac hmu htx hU2 hf2
    try simp only [Act.put, List.setIfInBounds_toArray, List.set_cons_zero, List.set_cons_succ]
    refine seqCall 9 rfl (by kernel_rfl) rfl (fun K hK => ?_)
    go_simp
    refine (un_apply (.slice pb x.L.length cb) x.L vc ms B (HLM.out ms HMU.out) HWB.out (HWC.out ms HMU.out) w2 (by rw [← HVB.out]; exact HU2.out.base) (HOC.out.1.lies okM) (fun m hm => (HOC.out.2 m hm).inM) (by have := HU2.out.lt; have := HU2.out.ge; omega) HT2.out.1 HT2.out.2).mono ?_
    rintro e w3 ⟨v3, L3, rfl, hu3, ho3, hw3⟩
    have HL3 := Lib.hid hu3
    have HO3 := Lib.hid ho3
    have HU3 := Lib.hid (HU2.out.below hw3)
    have HF3 := Lib.hid (HF2.out.trans (UFr.of _ hw3))
    have HBX := Lib.hid (show Blk b0 (gca g) 42 w3 from (show Blk b0 (gca g) 42 w2 from hS).below hw3)
    refine hK.out _ _ HBX.out (fun hS => ?_)
    clear hK K hu3 ho3 hw3
    try simp only [Act.put, List.setIfInBounds_toArray, List.set_cons_zero, List.set_cons_succ]
    refine seqRead 10 (v := _) rfl (by kernel_rfl) (by kernel_rfl) (by kernel_rfl) (fun _ _ _ h => h) rfl (fun w hSw => by go_simp <;> with_reducible rfl) hS ?_
    try simp only [Act.put, List.setIfInBounds_toArray, List.set_cons_zero, List.set_cons_succ]
    refine seqRead 11 (v := _) rfl (by kernel_rfl) (by kernel_rfl) (by kernel_rfl) (fun _ _ _ h => h) rfl (fun w hSw => by go_simp <;> with_reducible rfl) hS ?_
    try simp only [Act.put, List.setIfInBounds_toArray, List.set_cons_zero, List.set_cons_succ]
    refine seqCall 12 rfl (by kernel_rfl) rfl (fun K hK => ?_)
    have HTH := Lib.hid (show w3.there x.p 1 1 from HU3.out.box.there (by show 2 ≤ 4; decide))
    have HONE := Lib.hid (show v3.oneCell' = true by obtain ⟨q, cc, e⟩ := HO3.out.1.form; rw [e]; rfl)
    refine stWp 27 _ _ rfl x.p 1 v3 rfl rfl HONE.out HTH.out infoSR ?_
    refine hK.out _ _ ((heap_setCell_other _ _ _ _ (show b0 ≠ x.p from fun e => HN.out (by rw [e]; simp [Um.muts]))).trans HBX.out) (fun hS => ?_)
    clear hK K
    have HFW := Lib.hid (Fr.cell w3 ⟨x.p, 1, none⟩ v3 (M := [x.p]) (by simp))
    have HX := Lib.hid (show UniA B ⟨x.p, x.room, v3, L3, vo2, ts2, x.fail⟩ (w3.setCell ⟨x.p, 1, none⟩ v3) from
      UniA.wrote (p := x.p) HU3.out.boxU rfl (HU3.out.box.one (k := 1) v3) HFW.out HO3.out HU3.out.opn HU3.out.txs HU3.out.nod)
    have HFX := Lib.hid (show UFr x ⟨x.p, x.room, v3, L3, vo2, ts2, x.fail⟩ W (w3.setCell ⟨x.p, 1, none⟩ v3) from ⟨HF3.out.fr.tr (HFW.out.mono fun g hg => .inl (by
      simp only [List.mem_cons, List.not_mem_nil, or_false] at hg
      subst hg
      simp [Um.muts])), HF3.out.new⟩)
    clear HTH HONE HFW HBX HU3 HF3 HO3
    generalize w3.setCell ⟨x.p, 1, none⟩ v3 = w4 at *
    try simp only [Act.put]
    refine seqDone (by kernel_rfl) ?_
    clear hS
    go_wp2_with fail
    go_ret
    exact ⟨_, _, [], rfl, (takeA_end HSND.out (.inl HKD.out)).symm, AnsL.nil _ _, (takeS_commit HSND.out HKD.out HL3.out HMU.out HTX.out).symm, HX.out, rfl, (UFr.of x HBW.out).trans HFX.out⟩
  · go_simp
    refine (un_end x B g.txn HLN.out W HU.out).mono ?_
    rintro e w2 ⟨vc, vo2, ms, ts2, rfl, hoc, hac, hmu, htx, hU2, hf2⟩
    have HOC := Lib.hid (And.intro hoc hac)
    have HMU := Lib.hid hmu
    have HTX := Lib.hid htx
    have HU2 := Lib.hid hU2
    have HF2 := Lib.hid hf2
    have HT2 := Lib.hid (hf2.env HU.out HT.out.1 HZ.out)
    refine hK.out _ _ ((show Blk b0 (gca g) 42 W from hS).ufr hf2 HN.out).1 (fun hS => ?_)
    clear hK K hoc hac hmu htx hU2 hf2
    try simp only [Act.put, List.setIfInBounds_toArray, List.set_cons_zero, List.set_cons_succ]
    refine seqCall 4 rfl (by kernel_rfl) rfl (fun K hK => ?_)
    have c1 : w2.cell? ⟨x.p, 1, none⟩ = some (.slice pb x.L.length cb) := by rw [← HVB.out]; exact HU2.out.vb_
    refine rdWp (.slice pb x.L.length cb) (by go_simp <;> with_reducible rfl) ?_
    refine hK.out _ _ hS (fun hS => ?_)
    clear hK K c1
    try simp only [Act.put, List.setIfInBounds_toArray, List.set_cons_zero, List.set_cons_succ]
    refine seqCall 9 rfl (by kernel_rfl) rfl (fun K hK => ?_)
    go_simp
    refine (un_apply (.slice pb x.L.length cb) x.L vc ms B (HLM.out ms HMU.out) HWB.out (HWC.out ms HMU.out) w2 (by rw [← HVB.out]; exact HU2.out.base) (HOC.out.1.lies okM) (fun m hm => (HOC.out.2 m hm).inM) (by have := HU2.out.lt; have := HU2.out.ge; omega) HT2.out.1 HT2.out.2).mono ?_
    rintro e w3 ⟨v3, L3, rfl, hu3, ho3, hw3⟩
    have HL3 := Lib.hid hu3
    have HO3 := Lib.hid ho3
    have HU3 := Lib.hid (HU2.out.below hw3)
    have HF3 := Lib.hid (HF2.out.trans (UFr.of _ hw3))
    have HBX := Lib.hid (show Blk b0 (gca g) 42 w3 from (show Blk b0 (gca g) 42 w2 from hS).below hw3)
    refine hK.out _ _ HBX.out (fun hS => ?_)
    clear hK K hu3 ho3 hw3
    try simp only [Act.put, List.setIfInBounds_toArray, List.set_cons_zero, List.set_cons_succ]
    refine seqRead 10 (v := _) rfl (by kernel_rfl) (by kernel_rfl) (by kernel_rfl) (fun _ _ _ h => h) rfl (fun w hSw => by go_simp <;> with_reducible rfl) hS ?_
    try simp only [Act.put, List.setIfInBounds_toArray, List.set_cons_zero, List.set_cons_succ]
    refine seqRead 11 (v := _) rfl (by kernel_rfl) (by kernel_rfl) (by kernel_rfl) (fun _ _ _ h => h) rfl (fun w hSw => by go_simp <;> with_reducible rfl) hS ?_
    try simp only [Act.put, List.setIfInBounds_toArray, List.set_cons_zero, List.set_cons_succ]
    refine seqCall 12 rfl (by kernel_rfl) rfl (fun K hK => ?_)
    have HTH := Lib.hid (show w3.there x.p 1 1 from HU3.out.box.there (by show 2 ≤ 4; decide))
    have HONE := Lib.hid (show v3.oneCell' = true by obtain ⟨q, cc, e⟩ := HO3.out.1.form; rw [e]; rfl)
    refine stWp 27 _ _ rfl x.p 1 v3 rfl rfl HONE.out HTH.out infoSR ?_
    refine hK.out _ _ ((heap_setCell_other _ _ _ _ (show b0 ≠ x.p from fun e => HN.out (by rw [e]; simp [Um.muts]))).trans HBX.out) (fun hS => ?_)
    clear hK K
    have HFW := Lib.hid (Fr.cell w3 ⟨x.p, 1, none⟩ v3 (M := [x.p]) (by simp))
    have HX := Lib.hid (show UniA B ⟨x.p, x.room, v3, L3, vo2, ts2, x.fail⟩ (w3.setCell ⟨x.p, 1, none⟩ v3) from
      UniA.wrote (p := x.p) HU3.out.boxU rfl (HU3.out.box.one (k := 1) v3) HFW.out HO3.out HU3.out.opn HU3.out.txs HU3.out.nod)
    have HFX := Lib.hid (show UFr x ⟨x.p, x.room, v3, L3, vo2, ts2, x.fail⟩ W (w3.setCell ⟨x.p, 1, none⟩ v3) from ⟨HF3.out.fr.tr (HFW.out.mono fun g hg => .inl (by
      simp only [List.mem_cons, List.not_mem_nil, or_false] at hg
      subst hg
      simp [Um.muts])), HF3.out.new⟩)
    clear HTH HONE HFW HBX HU3 HF3 HO3
    generalize w3.setCell ⟨x.p, 1, none⟩ v3 = w4 at *
    try simp only [Act.put]
    refine seqDone (by kernel_rfl) ?_
    clear hS
    go_wp2_with fail
    go_ret
    exact ⟨_, _, [], rfl, (takeA_end HSND.out (.inl HKD.out)).symm, AnsL.nil _ _, (takeS_commit HSND.out HKD.out HL3.out HMU.out HTX.out).symm, HX.out, rfl, (UFr.of x HBW.out).trans HFX.out⟩
set_option maxHeartbeats 2000000 in
set_option maxRecDepth 100000 in
theorem un_take_und (x : Um) (B k : Nat) (hF : FitM k x) (hk : k + 1 ≤ 9000) (g : Gm) (hw : WfMs g.u) (w : World) (h : UniA B x w) (hi : InG g w) (hs : StM B g.mod w) (ht : Tab w) (hz : 0 < B) (hsnd : sndMs g.u = true) (hkd : g.kind = 4) :
    Calls Tryz.prog 19 #[.pointer (some ⟨x.p, 0, none⟩), .agg (gca g)] w (TakeRet x B g w) := by
  have hk1 : (g.kind == 1) = false := by rw [hkd]; rfl
  have hk2 : (g.kind == 2) = false := by rw [hkd]; rfl
  have hk5 : (g.kind == 5) = false := by rw [hkd]; rfl
  have hk3 : (g.kind == 3) = false := by rw [hkd]; rfl
  have hk4 : (g.kind == 4) = true := by rw [hkd]; rfl
  have HKD := Lib.hid hkd
  clear hkd
  have HLN := Lib.hid (show x.ts.length ≤ 100000 by have := hF.len; omega)
  have R0 := Lib.hid (Blk.new w (gca g) 42)
  have HB0 := Lib.hid (below1 w (.cells (gca g) 42))
  have HU0 := Lib.hid (h.below HB0.out)
  have HI0 := Lib.hid (hs.below HB0.out)
  have HN0 := Lib.hid (show w.heap.size ∉ x.muts from fun hm => by have := h.muts.lt _ hm; omega)
  have HT0 := Lib.hid (Env.at_ ht hz (HB0.out.mono (by have := h.lt; have := h.ge; omega)) (by have := h.lt; have := h.ge; omega))
  have HSo := Lib.hid (msnd_any g hw _ (hi.below HB0.out) HT0.out.1 HT0.out.2)
  have HF := Lib.hid hF
  have HK := Lib.hid hk
  have HWM := Lib.hid hw.mod
  have HZ := Lib.hid hz
  have HSND := Lib.hid hsnd
  rw [hsnd] at HSo
  clear h hi hs ht hF hk hw hsnd
  go_enter Tryz.func19, Tryz.ntmps19
  obtain ⟨b0, hb0⟩ : ∃ b0, b0 = w.heap.size := ⟨_, rfl⟩
  rw [← hb0] at R0 HN0
  go_upto_region 1 with fail
  rw [← hb0]
  clear hb0
  generalize hW0 : w.alloc (.cells (gca g) 42) = w0 at *
  clear hW0
  go_upto_region 5 with (first
    | (refine wpList_load_row rfl 42 _ rfl b0 rfl 42 (gca g) (0, 0) _ R0.out Tryz.underlying42 rfl infoG ?_)
    | (go_at_call 39; refine HSo.out.mono ?_; rintro e w1 ⟨rfl, hw1⟩; refine Hid.out ?_))
  have R1 := Lib.hid (R0.out.below hw1)
  have HU1 := Lib.hid (HU0.out.below hw1)
  have HI1 := Lib.hid (HI0.out.below hw1)
  have HT1 := Lib.hid (show Tab w1 ∧ 0 < w1.heap.size from ⟨HT0.out.1.below HT0.out.2 hw1, by have := hw1.size; have := HT0.out.2; omega⟩)
  have HB1 := Lib.hid (HB0.out.trans (hw1.mono HB0.out.size))
  have k0 := R1.out.cellsG.kind
  have k1 := R1.out.cellsG.txn
  clear hw1 R0 HU0 HI0 HT0 HB0 HSo
  refine Lib.hid ?_
  have HE := Lib.hid (un_end x B g.txn HLN.out w1 HU1.out)
  go_wp2_with (go_at_call 43; refine HE.out.mono ?_; rintro e w2 ⟨vc, vo2, ms, ts2, rfl, hoc, hac, hmu, htx, hU2, hf2⟩)
  go_ret
  exact ⟨_, _, [], rfl, (takeA_end HSND.out (.inr HKD.out)).symm, AnsL.nil _ _, (takeS_undo HSND.out HKD.out htx).symm, hU2, rfl, (UFr.of x HB1.out).trans hf2⟩
set_option maxHeartbeats 2000000 in
set_option maxRecDepth 100000 in
theorem un_take_oth (x : Um) (B k : Nat) (hF : FitM k x) (hk : k + 1 ≤ 9000) (g : Gm) (hw : WfMs g.u) (w : World) (h : UniA B x w) (hi : InG g w) (hs : StM B g.mod w) (ht : Tab w) (hz : 0 < B) (hsnd : sndMs g.u = true) (hkd : 5 < g.kind) :
    Calls Tryz.prog 19 #[.pointer (some ⟨x.p, 0, none⟩), .agg (gca g)] w (TakeRet x B g w) := by
  have hk1 : (g.kind == 1) = false := by simp; omega
  have hk2 : (g.kind == 2) = false := by simp; omega
  have hk5 : (g.kind == 5) = false := by simp; omega
  have hk3 : (g.kind == 3) = false := by simp; omega
  have hk4 : (g.kind == 4) = false := by simp; omega
  have HKD := Lib.hid hkd
  clear hkd
  have R0 := Lib.hid (Blk.new w (gca g) 42)
  have HB0 := Lib.hid (below1 w (.cells (gca g) 42))
  have HU0 := Lib.hid (h.below HB0.out)
  have HI0 := Lib.hid (hs.below HB0.out)
  have HN0 := Lib.hid (show w.heap.size ∉ x.muts from fun hm => by have := h.muts.lt _ hm; omega)
  have HT0 := Lib.hid (Env.at_ ht hz (HB0.out.mono (by have := h.lt; have := h.ge; omega)) (by have := h.lt; have := h.ge; omega))
  have HSo := Lib.hid (msnd_any g hw _ (hi.below HB0.out) HT0.out.1 HT0.out.2)
  have HF := Lib.hid hF
  have HK := Lib.hid hk
  have HWM := Lib.hid hw.mod
  have HZ := Lib.hid hz
  have HSND := Lib.hid hsnd
  rw [hsnd] at HSo
  clear h hi hs ht hF hk hw hsnd
  go_enter Tryz.func19, Tryz.ntmps19
  obtain ⟨b0, hb0⟩ : ∃ b0, b0 = w.heap.size := ⟨_, rfl⟩
  rw [← hb0] at R0 HN0
  go_upto_region 1 with fail
  rw [← hb0]
  clear hb0
  generalize hW0 : w.alloc (.cells (gca g) 42) = w0 at *
  clear hW0
  go_upto_region 5 with (first
    | (refine wpList_load_row rfl 42 _ rfl b0 rfl 42 (gca g) (0, 0) _ R0.out Tryz.underlying42 rfl infoG ?_)
    | (go_at_call 39; refine HSo.out.mono ?_; rintro e w1 ⟨rfl, hw1⟩; refine Hid.out ?_))
  have R1 := Lib.hid (R0.out.below hw1)
  have HU1 := Lib.hid (HU0.out.below hw1)
  have HI1 := Lib.hid (HI0.out.below hw1)
  have HT1 := Lib.hid (show Tab w1 ∧ 0 < w1.heap.size from ⟨HT0.out.1.below HT0.out.2 hw1, by have := hw1.size; have := HT0.out.2; omega⟩)
  have HB1 := Lib.hid (HB0.out.trans (hw1.mono HB0.out.size))
  have k0 := R1.out.cellsG.kind
  have k1 := R1.out.cellsG.txn
  clear hw1 R0 HU0 HI0 HT0 HB0 HSo
  refine Lib.hid ?_
  have HR := Lib.hid (un_refusal g.txn 2 w1)
  go_wp2_with (go_at_call 40; refine HR.out.mono ?_; rintro e w2 ⟨va, gs, rfl, hgs, hav, hw2⟩)
  go_ret
  have hk : 5 < g.u.kind := HKD.out
  exact ⟨x, _, gs, rfl, by rw [hgs, takeA_oth HSND.out hk]; rfl, hav.mono HB1.out.size, (takeS_oth (by omega) (by omega) (by omega)).symm, HU1.out.below hw2, rfl, UFr.of x (HB1.out.trans (hw2.mono HB1.out.size))⟩
/-- Take -/
theorem un_take (x : Um) (B k : Nat) (hF : FitM k x) (hk : k + 1 ≤ 9000) (g : Gm) (hw : WfMs g.u) (w : World) (h : UniA B x w) (hi : InG g w) (hs : StM B g.mod w) (ht : Tab w) (hz : 0 < B) :
    Calls Tryz.prog 19 #[.pointer (some ⟨x.p, 0, none⟩), .agg (gca g)] w (TakeRet x B g w) := by
  cases hsnd : sndMs g.u
  · exact un_take_no x B k hF hk g hw w h hi hs ht hz hsnd
  · rcases snd_kinds hsnd with q | q | q | q | q | q
    · exact un_take_mod x B k hF hk g hw w h hi hs ht hz hsnd q
    · exact un_take_bar x B k hF hk g hw w h hi hs ht hz hsnd q
    · exact un_take_com x B k hF hk g hw w h hi hs ht hz hsnd q
    · exact un_take_und x B k hF hk g hw w h hi hs ht hz hsnd q
    · exact un_take_ask x B k hF hk g hw w h hi hs ht hz hsnd q
    · exact un_take_oth x B k hF hk g hw w h hi hs ht hz hsnd q
end Go.Proofs.YtomnpfbebimpkaaGreatDoor
