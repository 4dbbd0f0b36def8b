/-
  Ends and links as values and in slices; maps from ends to ends: look-up, store, length.
-/
import Derived.Test.YtgmfmmabegcocaaFrmTl
import Derived.Laws.StructEq
import Derived.Maps.OwnSet
import Derived.ChangeMaps5
namespace Go.Proofs.Ytgmfmmabegcocaa
set_option maxRecDepth 20000
open Go.RowKit

/-- an end: a unit, a port; a link: two ends -/
abbrev En : Type := Int × Int
abbrev Ln : Type := En × En
def ecl (e : En) : List Value := [.int .i64 e.1, .int .i64 e.2]
def eca (e : En) : Array Value := #[.int .i64 e.1, .int .i64 e.2]
def lcl (x : Ln) : List Value := [.int .i64 x.1.1, .int .i64 x.1.2, .int .i64 x.2.1, .int .i64 x.2.2]
def lca (x : Ln) : Array Value := #[.int .i64 x.1.1, .int .i64 x.1.2, .int .i64 x.2.1, .int .i64 x.2.2]
abbrev KE : Kd En := ⟨26, 32, 2, 16, ecl⟩
abbrev KN : Kd Ln := ⟨36, 22, 4, 32, lcl⟩
theorem okE : KE.Ok where
  pos := by decide
  len := fun _ => rfl
  one := fun a u hu => by
    simp only [ecl, List.mem_cons, List.not_mem_nil, or_false] at hu
    rcases hu with rfl | rfl <;> rfl
  under := Try.underlying32
  info := infoOf (by kernel_rfl) (by kernel_rfl) (by kernel_rfl)
  small := by decide
  room1 := by decide
theorem okN : KN.Ok where
  pos := by decide
  len := fun _ => rfl
  one := fun a u hu => by
    simp only [lcl, List.mem_cons, List.not_mem_nil, or_false] at hu
    rcases hu with rfl | rfl | rfl | rfl <;> rfl
  under := Try.underlying22
  info := infoOf (by kernel_rfl) (by kernel_rfl) (by kernel_rfl)
  small := by decide
  room1 := by decide
theorem infoE : (Try.prog.info? 26).map (·.size) = some 2 := by kernel_rfl
theorem infoN : (Try.prog.info? 36).map (·.size) = some 4 := by kernel_rfl
theorem infoS4 : (Try.prog.info? 24).map (·.size) = some 4 := by kernel_rfl
theorem eca_one (e : En) : (eca e).all (·.oneCell') = true := by simp [eca, Value.oneCell']
theorem lca_one (x : Ln) : (lca x).all (·.oneCell') = true := by simp [lca, Value.oneCell']
/-- an end as a value -/
abbrev eV (e : En) : Value := .agg (eca e)
theorem endFields : ∃ f g : Field, (Try.prog.fieldsOf 26).toList = [f, g] ∧ f.name ≠ "_" ∧ f.type = 3 ∧ f.offset = 0 ∧ g.name ≠ "_" ∧ g.type = 3 ∧ g.offset = 1 := ⟨_, _, rfl, by decide, rfl, rfl, by decide, rfl, rfl⟩
theorem partE0 (a : En) (w : World) : (part 3 (eca a) 0).run Try.prog w = .ok (.int .i64 a.1) w := by kernel_rfl
theorem partE1 (a : En) (w : World) : (part 3 (eca a) 1).run Try.prog w = .ok (.int .i64 a.2) w := by kernel_rfl
theorem eql_end (a b : En) (w : World) : (Op.equalIn 10000 26 (eV a) (eV b)).run Try.prog w = .ok (decide (a = b)) w := by
  obtain ⟨f, g, hf, f1, f2, f3, g1, g2, g3⟩ := endFields
  rw [run_equalIn_struct w 9999 26 (eca a) (eca b) (by kernel_rfl) (by kernel_rfl), hf]
  have hI : ∀ x y : Int, (Op.equalIn 9999 3 (.int .i64 x) (.int .i64 y)).run Try.prog w = .ok (x == y) w := fun x y => run_equalIn_int w 9998 3 .i64 .i64 x y Try.underlying3
  obtain ⟨a1, a2⟩ := a
  obtain ⟨b1, b2⟩ := b
  simp only [Op.eqFields, f1, f2, f3, g1, g2, g3, ne_eq, not_false_eq_true, if_true, Sem.run_bind, partE0, Result.andThen_ok, hI]
  by_cases e1 : a1 = b1
  · subst e1
    simp only [BEq.rfl, Bool.not_true, Bool.false_eq_true, if_false, Sem.run_bind, partE1, Result.andThen_ok, hI]
    by_cases e2 : a2 = b2
    · subst e2; simp
    · simp [e2]
  · have : (a1 == b1) = false := by simp [e1]
    simp [this, e1]
theorem guardEnd : Try.prog.eqGuardType Try.prog.depth 26 = false := by kernel_rfl
/-! ### keys -/
theorem checkEnd (em : Bool) (a : En) (w : World) : (Instr.checkKey em 10000 26 (eV a)).run Try.prog w = .ok () w := by kernel_rfl
theorem staysEnd (a : En) (w : World) : (Instr.keyThatStays (eV a) (eV a)).run Try.prog w = .ok (eV a) w := by
  have e : Instr.sameBits 10000 (eV a) (eV a) = true := by
    show Instr.sameBits (9998 + 1 + 1) (eV a) (eV a) = true
    simp [Instr.sameBits, eca]
  unfold Instr.keyThatStays
  rw [e]
  rfl
theorem zeroEnd (w : World) : (zeroValue 26).run Try.prog w = .ok (eV (0, 0)) w := by kernel_rfl
theorem underEnd : ∃ fs, Try.prog.underlying 26 = some (.struct fs) := ⟨_, Try.underlying26⟩
/-- the entries of a map's block say what a list of pairs says -/
def Ents (es : List MapEntry) (D : List (En × En)) : Prop := es.map (fun x => (x.key, x.val)) = D.map (fun q => (eV q.1, eV q.2))
/-- a store -/
def putD : List (En × En) → En → En → List (En × En)
  | [], k, v => [(k, v)]
  | q :: r, k, v => if q.1 = k then (k, v) :: r else q :: putD r k v
theorem putD_new {k v : En} : ∀ {D : List (En × En)}, k ∉ D.map Prod.fst → putD D k v = D ++ [(k, v)]
  | [], _ => rfl
  | q :: r, h => by
    simp only [List.map_cons, List.mem_cons, not_or] at h
    unfold putD
    rw [if_neg (fun e => h.1 e.symm), putD_new h.2]
    rfl
theorem putD_keys_old {k v : En} : ∀ {D : List (En × En)}, k ∈ D.map Prod.fst → (putD D k v).map Prod.fst = D.map Prod.fst
  | [], h => by cases h
  | q :: r, h => by
    unfold putD
    by_cases e : q.1 = k
    · rw [if_pos e]; simp [e]
    · rw [if_neg e]
      simp only [List.map_cons, List.mem_cons] at h ⊢
      rw [putD_keys_old (h.resolve_left (fun x => e x.symm))]
theorem Ents.cons {x : MapEntry} {es : List MapEntry} {D : List (En × En)} (h : Ents (x :: es) D) : ∃ q r, D = q :: r ∧ x.key = eV q.1 ∧ x.val = eV q.2 ∧ Ents es r := by
  cases D with
  | nil => cases h
  | cons q r =>
    unfold Ents at h
    simp only [List.map_cons, List.cons.injEq, Prod.mk.injEq] at h
    exact ⟨q, r, rfl, h.1.1, h.1.2, h.2⟩
theorem asking (k : En) (w : World) : ∀ (es : List MapEntry) (D : List (En × En)) (i : Nat), Ents es D →
    ((Instr.findAsking 26 (eV k) es i).run Try.prog w = .ok none w ∧ k ∉ D.map Prod.fst ∧ D.lookup k = none) ∨
    ∃ j e v, (Instr.findAsking 26 (eV k) es i).run Try.prog w = .ok (some (i + j, eV v)) w ∧ es[j]? = some e ∧ e.key = eV k ∧ D.lookup k = some v ∧ k ∈ D.map Prod.fst ∧ ∀ u, D.set j (k, u) = putD D k u
  | [], D, i, h => by
    cases D with
    | nil => exact .inl ⟨rfl, by simp, rfl⟩
    | cons q r => cases h
  | x :: es, D, i, h => by
    obtain ⟨⟨q1, q2⟩, r, rfl, hk, hv, hr⟩ := h.cons
    simp only at hk hv
    have hq : (Op.equal 26 (eV k) x.key).run Try.prog w = .ok (decide (k = q1)) w := by rw [hk]; exact eql_end k q1 w
    by_cases e : k = q1
    · refine .inr ⟨0, x, q2, ?_, rfl, by rw [hk, e], ?_, by simp [e], fun u => ?_⟩
      · unfold Instr.findAsking
        simp only [Sem.run_bind, hq, Result.andThen_ok, decide_eq_true e, if_true, hv]
        rfl
      · rw [List.lookup_cons, e, show (q1 == q1) = true from BEq.rfl]
      · unfold putD
        rw [if_pos e.symm]
        rfl
    · have hl : ((q1, q2) :: r).lookup k = r.lookup k := by rw [List.lookup_cons, show (k == q1) = false from beq_eq_false_iff_ne.2 e]
      have hrun : (Instr.findAsking 26 (eV k) (x :: es) i).run Try.prog w = (Instr.findAsking 26 (eV k) es (i + 1)).run Try.prog w := by
        conv => lhs; unfold Instr.findAsking
        simp only [Sem.run_bind, hq, Result.andThen_ok, decide_eq_false e, Bool.false_eq_true, if_false]
      rcases asking k w es r (i + 1) hr with ⟨h1, h2, h3⟩ | ⟨j, e0, v, h1, h2, h3, h4, h5, h6⟩
      · exact .inl ⟨by rw [hrun, h1], by simp only [List.map_cons, List.mem_cons, not_or]; exact ⟨e, h2⟩, by rw [hl, h3]⟩
      · refine .inr ⟨j + 1, e0, v, by rw [hrun, h1]; congr 3; omega, h2, h3, by rw [hl, h4], by simp [h5], fun u => ?_⟩
        conv => rhs; unfold putD
        rw [if_neg (fun x => e x.symm), ← h6 u]
        rfl
theorem finding (k : En) (w : World) (es : List MapEntry) (D : List (En × En)) (h : Ents es D) :
    ((Instr.findKey 26 (eV k) es).run Try.prog w = .ok none w ∧ k ∉ D.map Prod.fst ∧ D.lookup k = none) ∨
    ∃ j e v, (Instr.findKey 26 (eV k) es).run Try.prog w = .ok (some (j, eV v)) w ∧ es[j]? = some e ∧ e.key = eV k ∧ D.lookup k = some v ∧ k ∈ D.map Prod.fst ∧ ∀ u, D.set j (k, u) = putD D k u := by
  obtain ⟨fs, hu⟩ := underEnd
  have e : (Instr.findKey 26 (eV k) es).run Try.prog w = (Instr.findAsking 26 (eV k) es).run Try.prog w := by
    unfold Instr.findKey
    simp only [Sem.run_bind, run_underlying hu, Result.andThen_ok]
    cases es with
    | nil => rfl
    | cons x es =>
      have : Instr.findNow (.struct fs) (eV k) (x :: es) 0 = none := by
        unfold Instr.findNow Instr.sameNow
        rfl
      rw [this]
  rw [e]
  rcases asking k w es D 0 h with h1 | ⟨j, e0, v, h1, h2⟩
  · exact .inl h1
  · exact .inr ⟨j, e0, v, by rw [h1, Nat.zero_add], h2⟩
/-- block b is a map that says what a list of pairs says -/
def EMap (b : Nat) (D : List (En × En)) (W : World) : Prop := ∃ es clock, W.heap[b]? = some (.map es clock) ∧ Ents es.toList D
/-- a map's value, nil or not -/
def MapAt (m : Value) (D : List (En × En)) (W : World) : Prop := (m = .map none ∧ D = []) ∨ ∃ b, m = .map (some b) ∧ EMap b D W
section
variable {b : Nat} {D : List (En × En)} {w W W' : World} {k v : En} {m : Value}
theorem EMap.lt (h : EMap b D W) : b < W.heap.size := by
  obtain ⟨es, clock, hb, _⟩ := h
  exact (Array.getElem?_eq_some_iff.1 hb).1
theorem EMap.below (h : EMap b D W) (hb : Below W.heap.size W W') : EMap b D W' := by
  have hl := h.lt
  obtain ⟨es, clock, e, r⟩ := h
  exact ⟨es, clock, (hb.block b hl).trans e, r⟩
theorem MapAt.below (h : MapAt m D W) (hb : Below W.heap.size W W') : MapAt m D W' := by
  rcases h with h | ⟨b, e, h⟩
  · exact .inl h
  · exact .inr ⟨b, e, h.below hb⟩
theorem EMap.made (W : World) : EMap W.heap.size [] (W.alloc (.map #[] 0)) := ⟨#[], 0, (MapKept.heap_alloc W _).1, rfl⟩
theorem EMap.len (h : EMap b D W) (ty : TypeId) : (Builtin.len_ #[38] ty #[.map (some b)]).run Try.prog W = .ok (.int .i64 D.length) W := by
  obtain ⟨es, clock, hb, he⟩ := h
  have e1 : es.size = D.length := by
    have := congrArg List.length he
    simpa using this
  simp [Builtin.len_, run_underlying Try.underlying38, MapKept.run_getObj_map hb, goInt, Result.andThen, e1]
theorem MapAt.look (h : MapAt m D W) (k : En) : (Instr.lookup 38 m (eV k) true).run Try.prog W = .ok (.tuple #[eV ((D.lookup k).getD (0, 0)), .bool (D.lookup k).isSome]) W := by
  rcases h with ⟨rfl, rfl⟩ | ⟨b, rfl, es, clock, hb, he⟩
  · rcases finding k W [] [] rfl with ⟨h1, _, _⟩ | ⟨j, e, v, _, h2, _⟩
    · simp [Instr.lookup, run_underlying Try.underlying38, checkEnd, h1, Result.andThen]; rfl
    · simp at h2
  · rcases finding k W es.toList D he with ⟨h1, _, h2⟩ | ⟨j, e, v, h1, _, _, h4, _⟩
    · simp [Instr.lookup, run_underlying Try.underlying38, MapKept.run_getObj_map hb, checkEnd, h1, h2, Result.andThen]; rfl
    · simp [Instr.lookup, run_underlying Try.underlying38, MapKept.run_getObj_map hb, checkEnd, h1, h4, Result.andThen]
theorem EMap.put (h : EMap b D W) (k u : En) : ∃ W', (Instr.mapUpdate 38 (.map (some b)) (eV k) (eV u)).run Try.prog W = .ok () W' ∧ EMap b (putD D k u) W' ∧ W.grownBy W' (some b) := by
  obtain ⟨es, clock, hb, he⟩ := h
  have hg : ∀ o : Obj, W.grownBy (ChangeMaps.setBlock W b o) (some b) := fun o => ⟨rfl, rfl, rfl, by simp [ChangeMaps.setBlock], fun i _ hi => ChangeMaps.heap_setBlock_other hb _ (fun e => hi (by rw [e]))⟩
  rcases finding k W es.toList D he with ⟨h1, h2, _⟩ | ⟨j, e, v, h1, h2, h3, _, _, h6⟩
  · refine ⟨ChangeMaps.setBlock W b (.map (es.push ⟨eV k, eV u, clock⟩) (clock + 1)), ?_, ⟨_, _, ChangeMaps.heap_setBlock_same hb _, ?_⟩, hg _⟩
    · simp [Instr.mapUpdate, run_underlying Try.underlying38, MapKept.run_getObj_map hb, checkEnd, h1, MapKept.run_setObj_map _ hb, Result.andThen, ChangeMaps.setBlock]
    · rw [putD_new h2]
      unfold Ents at he ⊢
      simp [he]
  · have hj : es[j]? = some e := by simpa using h2
    refine ⟨ChangeMaps.setBlock W b (.map (es.modify j (fun e' => { e' with key := eV k, val := eV u })) clock), ?_, ⟨_, _, ChangeMaps.heap_setBlock_same hb _, ?_⟩, hg _⟩
    · simp [Instr.mapUpdate, run_underlying Try.underlying38, MapKept.run_getObj_map hb, checkEnd, h1, hj, h3, staysEnd, MapKept.run_setObj_map _ hb, Result.andThen, ChangeMaps.setBlock]
    · rw [← h6 u]
      unfold Ents at he ⊢
      rw [Array.toList_modify, ChangeMaps.modify_eq_set _ _ _ _ h2, List.map_set, he, List.map_set]
end
/-! ### at the operation -/
section
variable {ops : Array Oper} {rest : List Oper} {o : Oper} {a : Act} {w : World} {Q : Exit → Act → World → Prop} {K : Act → World → Prop}
theorem wpLook (hg : o.guard = none) (x y : Operand) (ho : o.op = .lookup 38 x y true) (m : Value) (D : List (En × En)) (hx : a.eval x = m) (hm : MapAt m D w) (k : En) (hy : a.eval y = eV k)
    (h : wpList Try.prog ops Q rest (a.put o.dst (.tuple #[eV ((D.lookup k).getD (0, 0)), .bool (D.lookup k).isSome])) w) : wpList Try.prog ops Q (o :: rest) a w := by
  refine wpList_plain hg fun K' hK' => ?_
  unfold Oper.wp
  simp only [execOp, ho, hx, hy, Sem.run_bind, hm.look k, Result.andThen_ok, Sem.run_pure]
  exact hK' _ _ h
theorem wpLenM (hg : o.guard = none) (x : Operand) (ho : o.op = .call { callee := .builtin .len, args := #[x], argTypes := #[38] }) (b : Nat) (D : List (En × En)) (hx : a.eval x = .map (some b)) (hm : EMap b D w)
    (h : wpList Try.prog ops Q rest (a.put o.dst (.int .i64 D.length)) w) : wpList Try.prog ops Q (o :: rest) a w := by
  refine wpList_plain hg fun K' hK' => ?_
  unfold Oper.wp
  simp [execOp, ho, resolve, invoke, builtin, hx, hm.len o.type, Result.andThen]
  exact hK' _ _ h
theorem putWp (x y z : Operand) (ho : o.op = .mapUpdate 38 x y z) (b : Nat) (D : List (En × En)) (k u : En) (hx : a.eval x = .map (some b)) (hy : a.eval y = eV k) (hz : a.eval z = eV u) (hm : EMap b D w)
    (h : ∀ w', EMap b (putD D k u) w' → w.grownBy w' (some b) → K (a.put o.dst undef) w') : o.wp Try.prog a w K Q := by
  obtain ⟨w', hr, h1, h2⟩ := hm.put k u
  unfold Oper.wp
  simp [execOp, ho, hx, hy, hz, hr, Result.andThen]
  exact h w' h1 h2
end
end Go.Proofs.Ytgmfmmabegcocaa
