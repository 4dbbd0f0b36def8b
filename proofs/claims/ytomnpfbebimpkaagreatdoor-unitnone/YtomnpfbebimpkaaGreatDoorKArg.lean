/-
  Slices that come in, opened, of any kind; of actions, of bytes; the row's last step where the call makes new memory alone.
-/
import Derived.Test.YtomnpfbebimpkaaGreatDoorPackLift
import Derived.Test.YtomnpfbebimpkaaGreatDoorPackAct
import Derived.Deep.Slices
import Derived.Carry
import Derived.ChangeSame
namespace Go.Proofs.YtomnpfbebimpkaaGreatDoor
set_option maxRecDepth 20000
open Go.ChangeShapes Go.WideShapes Go.ChangeAt Go.RowKit
theorem laidOutK : laidOutB Tryz.prog = true := by kernel_rfl
theorem spot_ofK {W : World} {a : Addr} {v : Value} (h : W.cell? a = some v) : a.spot = none := by
  unfold World.cell? at h
  split at h
  · split at h
    · cases h
    · rename_i hs
      cases hsp : a.spot with
      | none => rfl
      | some x => rw [hsp] at hs; exact absurd rfl hs
  · cases h
section
variable {H : Type} {enc : TypeId × Value → H} {W : World} {base : Nat} {sp : Nat → Bool} {held : Bool}
theorem open_kind {α : Type} (K : Kd α) (ok : K.Ok) (Wf : α → Prop) (hcells : Tryz.prog.cellsOf K.T = K.n)
    (helt : ∀ (fuel : Nat) (cs : List Value) (x : DataW H × List MemPlace), DataW.trod enc Tryz.prog W base sp held fuel K.T cs = some x → ∃ a, cs = K.cells a ∧ Wf a)
    {v : Value} {d : DataW H} {p : List MemPlace} {b : Nat} (hv : Value.okWide Tryz.prog W .any b K.S v) (h : DataW.Trod enc Tryz.prog W base sp held K.S v d p) :
    ∃ l : List α, KLies K v l W ∧ ∀ a ∈ l, Wf a := by
  obtain ⟨fuel, hf⟩ := h
  have one : ∀ x : Value, v.cells.toList = [x] → v = x := by
    intro x hx
    simp only [Value.okWide, ok.under, Cell.okWide] at hv
    cases v with
    | agg cs => simp [Cell.ok, ok.under] at hv
    | _ => simpa [Value.cells] using hx
  rcases Deep.open_slice ok.under hf with ⟨h0, _⟩ | ⟨a, len, cap, m, n, D, Pl, h0, _, hl, hm, hmm, _, hx⟩
  · exact ⟨[], .inl ⟨one _ h0, rfl⟩, fun x hx => (by cases hx)⟩
  · have hlm : len ≤ m := by rw [hmm]; split <;> omega
    by_cases hz : len = 0
    · subst hz
      exact ⟨[], .inr ⟨a, cap, one _ h0, Nat.zero_le _, fun i x hi => by simp at hi⟩, fun x hx => (by cases hx)⟩
    have each : ∀ i, i < len → ∃ c : α, (∀ j, j < K.n → W.cell? ((a.add (i * K.n)).add j) = (K.cells c)[j]?) ∧ Wf c := by
      intro i hi
      obtain ⟨cs', h1, h2⟩ := hx i (by omega)
      rw [hcells] at h1
      obtain ⟨_, _, hcell⟩ := World.cells?_some h1
      obtain ⟨c, rfl, hw⟩ := helt _ _ _ h2
      exact ⟨c, hcell, hw⟩
    obtain ⟨c0, _⟩ := each 0 (by omega)
    have hs : a.spot = none := by
      obtain ⟨c, hc, _⟩ := each 0 (by omega)
      have q := hc 0 ok.pos
      have hp : 0 < (K.cells c).length := by rw [ok.len]; exact ok.pos
      have e0 : (a.add (0 * K.n)).add 0 = a := by simp [Addr.add]
      rw [e0, List.getElem?_eq_getElem hp] at q
      exact spot_ofK q
    have pick : ∃ f : Nat → α, ∀ i, i < len → (∀ j, j < K.n → W.cell? ((a.add (i * K.n)).add j) = (K.cells (f i))[j]?) ∧ Wf (f i) := by
      refine ⟨fun i => if hi : i < len then Classical.choose (each i hi) else c0, fun i hi => ?_⟩
      simp only [dif_pos hi]
      exact Classical.choose_spec (each i hi)
    obtain ⟨f, hf'⟩ := pick
    refine ⟨(List.range len).map f, .inr ⟨a, cap, by rw [one _ h0]; simp, by simpa using hl, fun i c hi => ⟨hs, ?_⟩⟩, fun x hx => ?_⟩
    · have hi' : i < len := by have := (List.getElem?_eq_some_iff.1 hi).1; simpa using this
      have e : f i = c := by simpa [hi'] using hi
      subst e
      intro j u hu
      have hj : j < K.n := by have := (List.getElem?_eq_some_iff.1 hu).1; rwa [ok.len] at this
      have q := (hf' i hi').1 j hj
      rw [hu] at q
      obtain ⟨bb, oo, ss⟩ := a
      have e : ss = none := hs
      subst e
      rw [Addr.add_mid, Addr.add_mid] at q
      exact q
    · obtain ⟨i, hi, rfl⟩ := List.mem_map.1 hx
      exact (hf' i (by simpa using hi)).2
theorem trod_struct4K {P : Program} {t : TypeId} {f0 f1 f2 f3 : Field} {fuel : Nat} {cs : List Value} {x : DataW H × List MemPlace} (ht : P.underlying t = some (.struct #[f0, f1, f2, f3])) (h : DataW.trod enc P W base sp held fuel t cs = some x) :
    ∃ y0 y1 y2 y3 n, cs.length = P.cellsOf t ∧ DataW.trod enc P W base sp held n f0.type ((cs.drop f0.offset).take (P.cellsOf f0.type)) = some y0 ∧ DataW.trod enc P W base sp held n f1.type ((cs.drop f1.offset).take (P.cellsOf f1.type)) = some y1 ∧
      DataW.trod enc P W base sp held n f2.type ((cs.drop f2.offset).take (P.cellsOf f2.type)) = some y2 ∧ DataW.trod enc P W base sp held n f3.type ((cs.drop f3.offset).take (P.cellsOf f3.type)) = some y3 := by
  obtain ⟨xs, n, _, rfl, hl, hlen, hf⟩ := DataW.trod_struct ht h
  match xs, hlen with
  | [y0, y1, y2, y3], _ => exact ⟨y0, y1, y2, y3, n, hl, by simpa using hf 0 f0 rfl, by simpa using hf 1 f1 rfl, by simpa using hf 2 f2 rfl, by simpa using hf 3 f3 rfl⟩
theorem trod_act (fuel : Nat) (cs : List Value) (x : DataW H × List MemPlace) (h : DataW.trod enc Tryz.prog W base sp held fuel 83 cs = some x) : ∃ a : Ac, cs = acl a ∧ WfA a := by
  obtain ⟨y0, y1, y2, y3, n, hl, h0, h1, h2, h3⟩ := trod_struct4K Tryz.underlying83 h
  have hlen : cs.length = 4 := by rw [hl]; kernel_rfl
  have cI : Tryz.prog.cellsOf 3 = 1 := by kernel_rfl
  have cU : Tryz.prog.cellsOf 33 = 1 := by kernel_rfl
  obtain ⟨k, e0, _, _⟩ := DataW.trod_int Tryz.underlying3 h0
  obtain ⟨p, e1, _, _⟩ := DataW.trod_int Tryz.underlying3 h1
  obtain ⟨f, e2, _, _⟩ := DataW.trod_int Tryz.underlying3 h2
  obtain ⟨v, e3, _, w3⟩ := DataW.trod_int Tryz.underlying33 h3
  match cs, hlen with
  | [a, b, c, d], _ =>
    rw [cI] at e0 e1 e2
    rw [cU] at e3
    simp at e0 e1 e2 e3
    subst e0 e1 e2 e3
    refine ⟨⟨k, p, f, v⟩, rfl, ?_⟩
    simp only [Lit.wf, Bool.and_eq_true, decide_eq_true_eq] at w3
    have e : IntKind.u64.max = 18446744073709551615 := by decide
    exact ⟨w3.1, by show v < _; have := w3.2; omega⟩
theorem cAct : Tryz.prog.cellsOf 83 = 4 := by kernel_rfl
theorem open_acts {v : Value} {d : DataW H} {p : List MemPlace} {b : Nat} (hv : Value.okWide Tryz.prog W .any b 38 v) (h : DataW.Trod enc Tryz.prog W base sp held 38 v d p) :
    ∃ l : List Ac, KLies KA v l W ∧ WfAL l := open_kind KA okA WfA cAct trod_act hv h
end
/-- bytes -/
abbrev KB : Kd Int := ⟨5, 113, 1, 1, fun n => [.int .u8 n]⟩
theorem okB : KB.Ok where
  pos := by decide
  len := fun _ => rfl
  one := fun a u hu => by simp only [List.mem_cons, List.not_mem_nil, or_false] at hu; subst hu; rfl
  under := Tryz.underlying113
  info := infoOf (by kernel_rfl) (by kernel_rfl) (by kernel_rfl)
  small := by decide
  room1 := by decide
section
variable {H : Type} {enc : TypeId × Value → H} {W : World} {base : Nat} {sp : Nat → Bool} {held : Bool}
theorem trod_byte (fuel : Nat) (cs : List Value) (x : DataW H × List MemPlace) (h : DataW.trod enc Tryz.prog W base sp held fuel 5 cs = some x) : ∃ a : Int, cs = KB.cells a ∧ (0 ≤ a ∧ a < 256) := by
  obtain ⟨k, e0, _, w3⟩ := DataW.trod_int Tryz.underlying5 h
  simp only [Lit.wf, Bool.and_eq_true, decide_eq_true_eq] at w3
  have e : IntKind.u8.max = 255 := by decide
  exact ⟨k, e0, w3.1, by have := w3.2; omega⟩
theorem cByte : Tryz.prog.cellsOf 5 = 1 := by kernel_rfl
theorem open_bytesK {v : Value} {d : DataW H} {p : List MemPlace} {b : Nat} (hv : Value.okWide Tryz.prog W .any b 113 v) (h : DataW.Trod enc Tryz.prog W base sp held 113 v d p) :
    ∃ l : List Int, KLies KB v l W ∧ ∀ a ∈ l, 0 ≤ a ∧ a < 256 := open_kind KB okB (fun a => 0 ≤ a ∧ a < 256) cByte trod_byte hv h
end
theorem readActs : Tryz.prog.readableRec 38 = true := by kernel_rfl
theorem rowActs : 38 < Tryz.prog.types.size := of_decide_eq_true (by kernel_rfl)
theorem readBytes : Tryz.prog.readableRec 113 = true := by kernel_rfl
theorem rowBytes : 113 < Tryz.prog.types.size := of_decide_eq_true (by kernel_rfl)
/-- The row's last step: the call has made new memory alone. -/
theorem post_oldK {H : Type} {enc : TypeId × Value → H} {P : Program} {f : Func} {s : ChangeSpec} {apart fresh handsOn : Bool} {W W' : World} {args : Array Value} {v : Value} {ds : List (DataW H)} {before pa : List MemPlace}
    (hW : DataW.Whole enc P f.params.toList s.vars apart W args.toList ds [] before) (hb : Below W.heap.size W W')
    (hres : ∀ (b : Nat) (sp : Nat → Bool) (hd : Bool), DataW.TrodAll enc P W' b sp hd f.resultTypes.toList (v.resultList f.resultTypes.size) (s.fn H (ds ++ [])).results [])
    (hargs : DataW.TrodAll enc P W' 0 (fun b => decide (b < W.heap.size)) true f.params.toList args.toList (s.fn H (ds ++ [])).args pa)
    (hvars : ∀ sp : Nat → Bool, DataW.TrodVars enc P W' sp s.vars (s.fn H (ds ++ [])).vars []) :
    s.post enc P f apart fresh handsOn false W args v W' :=
  ⟨ds, [], before, [], pa, [], hW, hres _ _ _, hargs, hvars _, hb.frame _, fun h => by cases h⟩
end Go.Proofs.YtomnpfbebimpkaaGreatDoor
