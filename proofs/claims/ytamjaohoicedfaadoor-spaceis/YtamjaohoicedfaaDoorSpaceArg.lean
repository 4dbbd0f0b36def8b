/-
  A slice of cubes that comes in, opened; the row's last step where the call makes new memory alone and the arguments lie in old memory.
-/
import Derived.Test.YtamjaohoicedfaaDoorCubeArg
import Derived.Test.YtamjaohoicedfaaDoorSpaceFun
import Derived.Deep.Slices
import Derived.Carry
namespace Go.Proofs.YtamjaohoicedfaaDoor
open Go.ChangeShapes Go.WideShapes Go.ChangeAt Go.RowKit
theorem cSlice : Tryd.prog.cellsOf 22 = 1 := by kernel_rfl
theorem laidOut : laidOutB Tryd.prog = true := by kernel_rfl
theorem readCubes : Tryd.prog.readableRec 22 = true := by kernel_rfl
theorem readHead : Tryd.prog.readableRec 25 = true := by kernel_rfl
theorem rowCubes : 22 < Tryd.prog.types.size := of_decide_eq_true (by kernel_rfl)
theorem rowHead : 25 < Tryd.prog.types.size := of_decide_eq_true (by kernel_rfl)
theorem spot_of {W : World} {a : Addr} {v : Value} (h : W.cell? a = some v) : a.spot = none := by
  unfold World.cell? at h
  split at h
  · split at h
    · cases h
    · rename_i hs
      cases hsp : a.spot with
      | none => rfl
      | some x => rw [hsp] at hs; exact absurd rfl hs
  · cases h
theorem cells_range {W : World} {a : Addr} {i : Nat} {c : Nat → Int} (hs : a.spot = none) (h : ∀ j, j < 24 → W.cell? ((a.add (i * 24)).add j) = (cl c)[j]?) : W.rangeAt a.block (a.off + i * 24) (cl c) := by
  intro j v hv
  have hj : j < 24 := by have := (List.getElem?_eq_some_iff.1 hv).1; rwa [cl_len] at this
  have q := h j hj
  rw [hv] at q
  obtain ⟨b, o, sp⟩ := a
  have e : sp = none := hs
  subst e
  rw [Addr.add_mid, Addr.add_mid] at q
  exact q
section
variable {H : Type} {enc : TypeId × Value → H} {W : World} {base : Nat} {sp : Nat → Bool} {held : Bool}
theorem open_cubes {v : Value} {d : DataW H} {p : List MemPlace} {b : Nat} (hv : Value.okWide Tryd.prog W .any b 22 v) (h : DataW.Trod enc Tryd.prog W base sp held 22 v d p) :
    ∃ l : List (Nat → Int), Lies v l W ∧ WfL l := by
  obtain ⟨fuel, hf⟩ := h
  have one : ∀ x : Value, v.cells.toList = [x] → v = x := by
    intro x hx
    simp only [Value.okWide, Tryd.underlying22, Cell.okWide] at hv
    cases v with
    | agg cs => simp [Cell.ok, Tryd.underlying22] at hv
    | _ => simpa [Value.cells] using hx
  rcases Deep.open_slice Tryd.underlying22 hf with ⟨h0, _⟩ | ⟨a, len, cap, m, n, D, Pl, h0, _, hl, hm, hmm, _, hx⟩
  · exact ⟨[], .inl ⟨one _ h0, rfl⟩, fun x hx => (by cases hx)⟩
  · have hlm : len ≤ m := by rw [hmm]; split <;> omega
    have each : ∀ i, i < len → ∃ c : Nat → Int, (∀ j, j < 24 → W.cell? ((a.add (i * 24)).add j) = (cl c)[j]?) ∧ Wf c := by
      intro i hi
      obtain ⟨cs', h1, h2⟩ := hx i (by omega)
      rw [cCube] at h1
      obtain ⟨_, _, hcell⟩ := World.cells?_some h1
      obtain ⟨c, rfl, _, hw⟩ := trod_cube h2
      exact ⟨c, hcell, wf_of hw⟩
    obtain ⟨f, hf'⟩ := Deep.choose_lt each
    refine ⟨(List.range len).map f, .inr ⟨a, cap, by rw [one _ h0]; simp, by simpa using hl, fun i hi => ?_⟩, fun x hx => ?_⟩
    · have hi' : i < len := by simpa using hi
      have e : nth ((List.range len).map f) i = f i := by simp [nth, hi']
      have hs : a.spot = none := by
        have q := (hf' 0 (by omega)).1 0 (by decide)
        have e0 : (a.add (0 * 24)).add 0 = a := by simp [Addr.add]
        rw [e0, cl_head] at q
        exact spot_of q
      exact ⟨hs, by rw [e]; exact cells_range hs (hf' i hi').1⟩
    · obtain ⟨i, hi, rfl⟩ := List.mem_map.1 hx
      exact (hf' i (by simpa using hi)).2
end
/-- The row's last step: the call has made new memory alone. -/
theorem post_old {H : Type} {enc : TypeId × Value → H} {P : Program} {f : Func} {s : ChangeSpec} {apart fresh handsOn : Bool} {W W' : World} {args : Array Value} {v : Value} {ds : List (DataW H)} {before pa : List MemPlace}
    (hW : DataW.Whole enc P f.params.toList s.vars apart W args.toList ds [] before) (hb : Below W.heap.size W W')
    (hres : ∀ (b : Nat) (sp : Nat → Bool) (hd : Bool), DataW.TrodAll enc P W' b sp hd f.resultTypes.toList (v.resultList f.resultTypes.size) (s.fn H (ds ++ [])).results [])
    (hargs : DataW.TrodAll enc P W' 0 (fun b => decide (b < W.heap.size)) true f.params.toList args.toList (s.fn H (ds ++ [])).args pa)
    (hvars : ∀ sp : Nat → Bool, DataW.TrodVars enc P W' sp s.vars (s.fn H (ds ++ [])).vars []) :
    s.post enc P f apart fresh handsOn false W args v W' :=
  ⟨ds, [], before, [], pa, [], hW, hres _ _ _, hargs, hvars _, hb.frame _, fun h => by cases h⟩
end Go.Proofs.YtamjaohoicedfaaDoor
