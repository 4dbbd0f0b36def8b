/- Several of my texts as one: HeadLift, HeadArg. -/
import Derived.Test.YtgmfmmabegcocaaRows
import Derived.Test.YtgmfmmabegcocaaPackHead
import Derived.ProofKit
import Derived.LaidMore
import Derived.OpenShut
import Derived.ShutString
import Derived.Stop.Joined
import Derived.SevenTiedAt
/-
  From the row's condition (the field table reads as the program's text lays it) to the table's cells; the witness's world; the row's last step for a call that only makes new memory.
-/
namespace Go.Proofs.Ytgmfmmabegcocaa
set_option maxRecDepth 20000
open Go.ChangeShapes Go.WideShapes Go.ChangeAt Go.RowKit

theorem own : ownKnob Try.prog.godebug = none := by kernel_rfl
theorem cStr : Try.prog.cellsOf 9 = 1 := by kernel_rfl
theorem cInt : Try.prog.cellsOf 3 = 1 := by kernel_rfl

theorem at_of_cut {l : List Value} {i j : Nat} {v : Value} (hj : j < 2) (h : (((l.drop i).take 2).drop j).take 1 = [v]) : l[i + j]? = some v := by
  have h0 : ((((l.drop i).take 2).drop j).take 1)[0]? = some v := by rw [h]; rfl
  rw [List.getElem?_take, if_pos (by decide), List.getElem?_drop, List.getElem?_take, if_pos (by omega), List.getElem?_drop] at h0
  simpa using h0

theorem tab_of_cells {cs : Array Value} (hs : cs.size = 24) (h : ∀ k, k < 12 → cs[k * 2]? = some (.string (nm k)) ∧ cs[k * 2 + 1]? = some (.int .i64 (sz k))) : cs = tabArr := by
  apply Array.ext_getElem?
  intro i
  by_cases hi : i < 24
  · obtain ⟨k, hk, rfl | rfl⟩ : ∃ k, k < 12 ∧ (i = k * 2 ∨ i = k * 2 + 1) := ⟨i / 2, by omega, by omega⟩
    · rw [(h k hk).1]
      match k, hk with
      | 0, _ => rfl
      | 1, _ => rfl
      | 2, _ => rfl
      | 3, _ => rfl
      | 4, _ => rfl
      | 5, _ => rfl
      | 6, _ => rfl
      | 7, _ => rfl
      | 8, _ => rfl
      | 9, _ => rfl
      | 10, _ => rfl
      | 11, _ => rfl
      | k + 12, h => exact absurd h (by omega)
    · rw [(h k hk).2]
      match k, hk with
      | 0, _ => rfl
      | 1, _ => rfl
      | 2, _ => rfl
      | 3, _ => rfl
      | 4, _ => rfl
      | 5, _ => rfl
      | 6, _ => rfl
      | 7, _ => rfl
      | 8, _ => rfl
      | 9, _ => rfl
      | 10, _ => rfl
      | 11, _ => rfl
      | k + 12, h => exact absurd h (by omega)
  · rw [Array.getElem?_eq_none (by omega), Array.getElem?_eq_none (by show 24 ≤ i; omega)]

/-- The row's last step: no place of the arguments or variables is met, the world has at most new blocks. -/
theorem post_new {H : Type} {enc : TypeId × Value → H} {P : Program} {f : Func} {s : ChangeSpec} {apart fresh handsOn : Bool} {W W' : World} {args : Array Value} {v : Value} {ds : List (DataW H)}
    (hW : DataW.Whole enc P f.params.toList s.vars apart W args.toList ds [] []) (hb : Below W.heap.size W W')
    (hres : ∀ (b : Nat) (sp : Nat → Bool) (hd : Bool), DataW.TrodAll enc P W' b sp hd f.resultTypes.toList (v.resultList f.resultTypes.size) (s.fn H (ds ++ [])).results [])
    (hargs : ∀ sp : Nat → Bool, DataW.TrodAll enc P W' 0 sp true f.params.toList args.toList (s.fn H (ds ++ [])).args [])
    (hvars : ∀ sp : Nat → Bool, DataW.TrodVars enc P W' sp s.vars (s.fn H (ds ++ [])).vars []) :
    s.post enc P f apart fresh handsOn false W args v W' :=
  ⟨ds, [], [], [], [], [], hW, hres _ _ _, hargs _, hvars _, hb.frame _, fun h => by cases h⟩
end Go.Proofs.Ytgmfmmabegcocaa

/-
  A header that comes in by value, opened and shut.
-/
namespace Go.Proofs.Ytgmfmmabegcocaa
set_option maxRecDepth 20000
open Go.ChangeShapes Go.WideShapes Go.ChangeAt Go.RowKit
section
variable {H : Type} {enc : TypeId × Value → H} {W : World} {base : Nat} {sp : Nat → Bool} {held : Bool}
/-- a header as data -/
def hd (a : Nat → Int) : DataW H := .agg [.lit (.int .u64 (a 0)), .lit (.int .u64 (a 1)), .lit (.int .u64 (a 2)), .lit (.int .u64 (a 3)), .lit (.int .u64 (a 4)), .lit (.int .u64 (a 5)), .lit (.int .u64 (a 6)), .lit (.int .u64 (a 7)), .lit (.int .u64 (a 8)), .lit (.int .u64 (a 9)), .lit (.int .u64 (a 10)), .lit (.int .u64 (a 11))]
/-- the number in a cell -/
def numAt (l : List Value) (j : Nat) : Int := match l[j]? with
  | some (.int _ n) => n
  | _ => 0
theorem nonneg_of_wf {a : Nat → Int} (h : ∀ j, (Lit.int .u64 (a j)).wf = true) : ∀ j, 0 ≤ a j := fun j => by
  have := h j
  simp only [Lit.wf, Bool.and_eq_true, decide_eq_true_eq] at this
  exact this.1
end
end Go.Proofs.Ytgmfmmabegcocaa
