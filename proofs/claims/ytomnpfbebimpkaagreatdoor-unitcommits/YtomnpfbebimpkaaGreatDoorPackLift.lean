/- Several of my texts as one: HeadLift, HeadArg. -/
import Derived.Test.YtomnpfbebimpkaaGreatDoorRows
import Derived.Test.YtomnpfbebimpkaaGreatDoorTie
import Derived.Test.YtomnpfbebimpkaaGreatDoorCards
import Derived.Test.YtomnpfbebimpkaaGreatDoorPackHead
import Derived.ProofKit
import Derived.LaidMore
import Derived.OpenShut
import Derived.ShutString
import Derived.Stop.Joined
import Derived.SevenTiedAt
/-
  From the row's condition (the field table reads as the program's text lays it) to the table's cells; the witness's world; the row's last step for a call that only makes new memory.
-/
namespace Go.Proofs.YtomnpfbebimpkaaGreatDoor
set_option maxRecDepth 20000
open Go.ChangeShapes Go.WideShapes Go.ChangeAt Go.RowKit

theorem own : ownKnob Tryz.prog.godebug = none := by kernel_rfl
/-- The field table's name, as the given rows have it. -/
abbrev layName : String := ((Rows.unitPlaysRow.laid.map (·.1)).head?).getD (String.ofList [])
theorem gLay : Tryz.prog.globalNamed layName = some 0 := by kernel_rfl
theorem tLay : (Tryz.prog.globals[0]?).map (·.type) = some 178 := by kernel_rfl
theorem cArr : Tryz.prog.cellsOf 178 = 24 := by kernel_rfl
theorem cLay : Tryz.prog.cellsOf 177 = 2 := by kernel_rfl
theorem cStr : Tryz.prog.cellsOf 9 = 1 := by kernel_rfl
theorem cInt : Tryz.prog.cellsOf 3 = 1 := by kernel_rfl

abbrev laid1 : List (String × DataW Unit) := Rows.unitPlaysRow.laid

theorem door_met (os : Os) (args : Array Value) : laidMetH Tryz.prog laid1 ((World.doorLaid Tryz.prog 400 os).forCall (fun _ _ => 0) ⟨#[], args, []⟩).memory :=
  laidMetH_of_parts3 (fuel := 8) (laidMet_of_run' 8 (by kernel_rfl) (by kernel_rfl)) (by kernel_rfl) (by kernel_rfl)

theorem lay_at {H : Type} : ∀ (k : Nat), k < 12 → ∀ L : List (DataW H), Rows.laid_podesta_head_layouts = .agg L → L[k]? = some (.agg [.lit (.string (nm k).data.toList), .lit (.int .i64 (sz k))]) := by
  intro k hk L hL
  unfold Rows.laid_podesta_head_layouts at hL
  simp only [DataW.agg.injEq] at hL
  subst hL
  match k, hk with
  | 0, _ => rfl
  | 1, _ => rfl
  | 2, _ => rfl
  | 3, _ => rfl
  | 4, _ => rfl
  | 5, _ => rfl
  | 6, _ => rfl
  | 7, _ => rfl
  | 8, _ => rfl
  | 9, _ => rfl
  | 10, _ => rfl
  | 11, _ => rfl
  | k + 12, h => exact absurd h (by omega)

theorem at_of_cut {l : List Value} {i j : Nat} {v : Value} (hj : j < 2) (h : (((l.drop i).take 2).drop j).take 1 = [v]) : l[i + j]? = some v := by
  have h0 : ((((l.drop i).take 2).drop j).take 1)[0]? = some v := by rw [h]; rfl
  rw [List.getElem?_take, if_pos (by decide), List.getElem?_drop, List.getElem?_take, if_pos (by omega), List.getElem?_drop] at h0
  simpa using h0

theorem tab_of_cells {cs : Array Value} (hs : cs.size = 24) (h : ∀ k, k < 12 → cs[k * 2]? = some (.string (nm k)) ∧ cs[k * 2 + 1]? = some (.int .i64 (sz k))) : cs = tabArr := by
  apply Array.ext_getElem?
  intro i
  by_cases hi : i < 24
  · obtain ⟨k, hk, rfl | rfl⟩ : ∃ k, k < 12 ∧ (i = k * 2 ∨ i = k * 2 + 1) := ⟨i / 2, by omega, by omega⟩
    · rw [(h k hk).1]
      match k, hk with
      | 0, _ => rfl
      | 1, _ => rfl
      | 2, _ => rfl
      | 3, _ => rfl
      | 4, _ => rfl
      | 5, _ => rfl
      | 6, _ => rfl
      | 7, _ => rfl
      | 8, _ => rfl
      | 9, _ => rfl
      | 10, _ => rfl
      | 11, _ => rfl
      | k + 12, h => exact absurd h (by omega)
    · rw [(h k hk).2]
      match k, hk with
      | 0, _ => rfl
      | 1, _ => rfl
      | 2, _ => rfl
      | 3, _ => rfl
      | 4, _ => rfl
      | 5, _ => rfl
      | 6, _ => rfl
      | 7, _ => rfl
      | 8, _ => rfl
      | 9, _ => rfl
      | 10, _ => rfl
      | 11, _ => rfl
      | k + 12, h => exact absurd h (by omega)
  · rw [Array.getElem?_eq_none (by omega), Array.getElem?_eq_none (by show 24 ≤ i; omega)]

theorem tab_of_laid {W : World} (h : laidMetH Tryz.prog laid1 W) : Tab W := by
  rw [MakeChecks.laidMetH_plain _ _ _ (by kernel_rfl)] at h
  obtain ⟨ps, ⟨g0, t0, cs0, f0, p0, q0, hg0, ht0, hv0, hd0, _, _⟩, _, _⟩ := h
  obtain rfl := Option.some.inj (gLay.symm.trans hg0)
  obtain rfl := Option.some.inj (tLay.symm.trans ht0)
  obtain ⟨xs, m1, rfl, hx1, hlen, hn, hel⟩ := DataW.trod_array Tryz.underlying178 hd0
  simp only [Prod.mk.injEq] at hx1
  have key : ∀ k, k < 12 → cs0[k * 2]? = some (.string (nm k)) ∧ cs0[k * 2 + 1]? = some (.int .i64 (sz k)) := by
    intro k hk
    have hk' := lay_at k hk _ hx1.1
    rw [List.getElem?_map, Option.map_eq_some_iff] at hk'
    obtain ⟨x, hx, hx2⟩ := hk'
    have hE := hel k hk
    rw [hx, cLay] at hE
    obtain ⟨y0, y1, m2, hy, _, hy0, hy1⟩ := trod_struct2 Tryz.underlying177 hE
    rw [hy] at hx2
    simp only [DataW.agg.injEq, List.cons.injEq, and_true] at hx2
    obtain ⟨s, e0, es, _⟩ := DataW.trod_string Tryz.underlying9 hy0
    obtain ⟨n, e1, en, _⟩ := DataW.trod_int Tryz.underlying3 hy1
    rw [es, en] at hx2
    simp only [DataW.lit.injEq, Lit.string.injEq, Lit.int.injEq, true_and] at hx2
    obtain ⟨hs, rfl⟩ := hx2
    have hs' : s = nm k := by
      obtain ⟨⟨a⟩⟩ := s
      generalize nm k = t at hs
      obtain ⟨⟨b⟩⟩ := t
      simp at hs
      rw [hs]
    subst hs'
    rw [cStr] at e0
    rw [cInt] at e1
    have a0 := at_of_cut (j := 0) (by decide) e0
    have a1 := at_of_cut (j := 1) (by decide) e1
    exact ⟨by simpa using a0, by simpa using a1⟩
  have hcs : cs0 = tabArr := tab_of_cells (by rw [cArr] at hlen; simpa using hlen) key
  refine ⟨fun k hk => ⟨(World.var?_cell hg0 hv0 (k * 2)).trans (key k hk).1, (World.var?_cell hg0 hv0 (k * 2 + 1)).trans (key k hk).2⟩, ?_⟩
  subst hcs
  simp only [World.var?, hg0, Option.bind_some] at hv0
  split at hv0 <;> simp_all
theorem Tab.size {W : World} (h : Tab W) : 0 < W.heap.size := World.block_lt_of_cell? W _ (h.1 0 (by decide)).1

end Go.Proofs.YtomnpfbebimpkaaGreatDoor

/-
  A header that comes in by value, opened and shut.
-/
namespace Go.Proofs.YtomnpfbebimpkaaGreatDoor
set_option maxRecDepth 20000
open Go.ChangeShapes Go.WideShapes Go.ChangeAt Go.RowKit
theorem cU64' : Tryz.prog.cellsOf 33 = 1 := by kernel_rfl
theorem cHead : Tryz.prog.cellsOf 35 = 12 := by kernel_rfl
section
variable {H : Type} {enc : TypeId × Value → H} {W : World} {base : Nat} {sp : Nat → Bool} {held : Bool}
/-- a header as data -/
def hd (a : Nat → Int) : DataW H := .agg [.lit (.int .u64 (a 0)), .lit (.int .u64 (a 1)), .lit (.int .u64 (a 2)), .lit (.int .u64 (a 3)), .lit (.int .u64 (a 4)), .lit (.int .u64 (a 5)), .lit (.int .u64 (a 6)), .lit (.int .u64 (a 7)), .lit (.int .u64 (a 8)), .lit (.int .u64 (a 9)), .lit (.int .u64 (a 10)), .lit (.int .u64 (a 11))]
/-- the number in a cell -/
def numAt (l : List Value) (j : Nat) : Int := match l[j]? with
  | some (.int _ n) => n
  | _ => 0
theorem trod_head {fuel : Nat} {cs : List Value} {x : DataW H × List MemPlace} (h : DataW.trod enc Tryz.prog W base sp held fuel 35 cs = some x) :
    ∃ a : Nat → Int, cs = (hc a).toList ∧ x = (hd a, []) ∧ ∀ j, (Lit.int .u64 (a j)).wf = true := by
  obtain ⟨xs, m, _, rfl, hl, hx, hel⟩ := DataW.trod_array Tryz.underlying35 h
  rw [cHead] at hl
  have key : ∀ j, j < 12 → cs[j]? = some (.int .u64 (numAt cs j)) ∧ xs[j]? = some (.lit (.int .u64 (numAt cs j)), []) ∧ (Lit.int .u64 (numAt cs j)).wf = true := by
    intro j hj
    have := hel j hj
    rw [cU64', Nat.mul_one] at this
    cases hxj : xs[j]? with
    | none => rw [List.getElem?_eq_none_iff] at hxj; omega
    | some y =>
      rw [hxj] at this
      obtain ⟨n, e1, e2, e3⟩ := DataW.trod_int Tryz.underlying33 this
      have h0 : ((cs.drop j).take 1)[0]? = some (.int .u64 n) := by rw [e1]; rfl
      rw [List.getElem?_take, if_pos (by decide), List.getElem?_drop] at h0
      have h1 : cs[j]? = some (.int .u64 n) := by simpa using h0
      have h2 : numAt cs j = n := by unfold numAt; rw [h1]
      rw [h2]
      exact ⟨h1, by rw [e2], e3⟩
  refine ⟨numAt cs, ?_, ?_, ?_⟩
  · apply List.ext_getElem?
    intro j
    by_cases hj : j < 12
    · have e := hc_at (numAt cs) j hj
      rw [← Array.getElem?_toList] at e
      rw [e, (key j hj).1]
    · rw [List.getElem?_eq_none (by omega), List.getElem?_eq_none (by show 12 ≤ j; omega)]
  · obtain rfl : xs = (List.range 12).map fun j => (.lit (.int .u64 (numAt cs j)), []) := by
      apply List.ext_getElem?
      intro j
      by_cases hj : j < 12
      · rw [(key j hj).2.1]; simp [hj]
      · rw [List.getElem?_eq_none (by omega), List.getElem?_eq_none (by simp; omega)]
    simp [hd, List.range, List.range.loop]
  · intro j
    by_cases hj : j < 12
    · exact (key j hj).2.2
    · have : numAt cs j = 0 := by unfold numAt; rw [List.getElem?_eq_none (by omega)]
      rw [this]; rfl
end
end Go.Proofs.YtomnpfbebimpkaaGreatDoor
