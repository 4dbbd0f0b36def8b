/-
  Cubes by value: their cells, and the walk of the program's Sound.
-/
import Derived.Test.YtamjaohoicedfaaDoorHeadSet
import Derived.Deep.MidRow
import Derived.Outline
namespace Go.Proofs.YtamjaohoicedfaaDoor
open Go.RowKit

/-- a cube's cells: the twelve of Value, then the twelve of Care -/
def cl (a : Nat → Int) : List Value := (List.range 24).map fun j => .int .u64 (a j)
def cc (a : Nat → Int) : Array Value := (cl a).toArray
/-- the numbers of Care -/
def care (a : Nat → Int) : Nat → Int := fun j => a (12 + j)
theorem cc_at (a : Nat → Int) (j : Nat) (h : j < 24) : (cc a)[j]? = some (.int .u64 (a j)) := by
  simp [cc, cl, h]
theorem cc_size (a : Nat → Int) : (cc a).size = 24 := by simp [cc, cl]
theorem cc_one (a : Nat → Int) : (cc a).all (·.oneCell') = true := by
  simp [cc, cl, Value.oneCell']
theorem cellC {w : World} {g j : Nat} {a : Nat → Int} {t : TypeId} {fr : Nat × Nat} (hg : w.heap[g]? = some (.cells (cc a) t fr)) (hj : j < 24) : w.cell? ⟨g, j, none⟩ = some (.int .u64 (a j)) := by
  rw [cell_of_row w g j _ t fr hg, cc_at a j hj]
theorem hl_at (a : Nat → Int) {j : Nat} {v : Value} (h : (hl a)[j]? = some v) : j < 12 ∧ v = .int .u64 (a j) := by
  have hj : j < 12 := by
    have := (List.getElem?_eq_some_iff.1 h).1
    simpa [hl] using this
  have e := hc_at a j hj
  have e' : (hl a)[j]? = some (.int .u64 (a j)) := by
    rw [← e, ← Array.getElem?_toList]; rfl
  rw [h] at e'
  exact ⟨hj, Option.some.inj e'⟩
theorem valR {w : World} {g : Nat} {a : Nat → Int} {t : TypeId} {fr : Nat × Nat} (hg : w.heap[g]? = some (.cells (cc a) t fr)) : w.rangeAt g 0 (hl a) := fun j v hv => by
  obtain ⟨hj, rfl⟩ := hl_at a hv
  rw [Nat.zero_add]
  exact cellC hg (by omega)
theorem careR {w : World} {g : Nat} {a : Nat → Int} {t : TypeId} {fr : Nat × Nat} (hg : w.heap[g]? = some (.cells (cc a) t fr)) : w.rangeAt g 12 (hl (care a)) := fun j v hv => by
  obtain ⟨hj, rfl⟩ := hl_at (care a) hv
  exact cellC hg (by omega)
theorem idxHl (a : Nat → Int) (j : Nat) (hj : j < 12) (w : World) : (Instr.index 25 (.agg (hl a).toArray) (.int .i64 j)).run Tryd.prog w = .ok (.int .u64 (a j)) w := idxHead a j hj w
/-- A load in the middle of a row behind a guard that says yes. -/
theorem loadMidG {P : Program} {ops : Array Oper} {rest : List Oper} {op : Oper} {a : Act} {w : World} {Q : Exit → Act → World → Prop} (hw : Region.wanted op (yielded ops a.tmps) = true) (ty : TypeId) (x : Operand) (ho : op.op = .load ty x)
    (b o : Nat) (hx : a.eval x = .pointer (some ⟨b, o, none⟩)) (cs : List Value) (d : TypeDesc) (hc : w.rangeAt b o cs)
    (hu : P.underlying ty = some d) (hd : d.isRow = true) (hi : (P.info? ty).map (·.size) = some cs.length)
    (h : wpList P ops Q rest (a.put op.dst (.agg cs.toArray)) w) : wpList P ops Q (op :: rest) a w :=
  wpList_step fun K hK => by rw [if_pos hw]; exact wp_load_mid ty x ho b o hx cs d hc hu hd hi (hK _ _ h)
/-- has Value a bit that Care has not? -/
def overB (a : Nat → Int) (j : Nat) : Bool := bits .andNot .u64 (a j) (a (12 + j)) != 0
/-- is a cube sound? -/
def csnd (a : Nat → Int) : Bool := sndB (care a) && sndB a && (List.range 12).all fun j => !overB a j
theorem csnd_care {a : Nat → Int} (h : sndB (care a) = false) : csnd a = false := by simp [csnd, h]
theorem csnd_val {a : Nat → Int} (h : sndB a = false) : csnd a = false := by simp [csnd, h]
theorem csnd_over {a : Nat → Int} {j : Nat} (hj : j < 12) (h : overB a j = true) : csnd a = false := by
  have : ((List.range 12).all fun j => !overB a j) = false := by
    rw [List.all_eq_false]
    exact ⟨j, by simpa using hj, by simp [h]⟩
  simp [csnd, this]
theorem csnd_yes {a : Nat → Int} (h1 : sndB (care a) = true) (h2 : sndB a = true) (h : ∀ j, j < 12 → overB a j = false) : csnd a = true := by
  have : ((List.range 12).all fun j => !overB a j) = true := by
    rw [List.all_eq_true]
    intro j hj
    simp [h j (by simpa using hj)]
  simp [csnd, this, h1, h2]

set_option maxHeartbeats 400000 in
theorem csound_care (a : Nat → Int) (h0 : ∀ j, 0 ≤ a j) (hs : sndB (care a) = false) (w : World) (ht : Tab w) (hz : 0 < w.heap.size) :
    Calls Tryd.prog 46 #[.agg (cc a)] w fun e w' => e = .returned (.bool false) ∧ Below w.heap.size w w' := by
  have HT := Lib.hid (ht.below hz (below1 w (.cells (cc a) 30)))
  have H0 := Lib.hid h0
  clear ht h0
  go_enter Tryd.func46, Tryd.ntmps46
  go_wp2_with (first
    | (refine wpList_load_mid rfl 25 _ rfl w.heap.size 12 rfl (hl (care a)) _ (careR (heap_alloc_new _ _)) Tryd.underlying25 rfl infoHead ?_)
    | (go_at_call 47; refine (sound_any (care a) (fun j => H0.out _) _ HT.out (Nat.lt_of_lt_of_le hz (by simp))).mono ?_; rintro e w1 ⟨rfl, hw1⟩))
  go_ret
  exact ⟨rfl, (below1 _ _).trans (hw1.mono (by simp))⟩
set_option maxHeartbeats 400000 in
theorem csound_val (a : Nat → Int) (h0 : ∀ j, 0 ≤ a j) (hs : sndB (care a) = true) (hv : sndB a = false) (w : World) (ht : Tab w) (hz : 0 < w.heap.size) :
    Calls Tryd.prog 46 #[.agg (cc a)] w fun e w' => e = .returned (.bool false) ∧ Below w.heap.size w w' := by
  have HE := Lib.hid ((show Env w w from ⟨ht, hz, Below.refl _ _⟩).below (below1 w (.cells (cc a) 30)))
  have H0 := Lib.hid h0
  clear ht h0
  go_enter Tryd.func46, Tryd.ntmps46
  go_wp2_with (refine wpList_load_mid rfl 25 _ rfl w.heap.size 12 rfl (hl (care a)) _ (careR (heap_alloc_new _ _)) Tryd.underlying25 rfl infoHead ?_)
  refine (sound_any (care a) (fun j => H0.out _) _ HE.out.tab HE.out.lt).mono ?_
  rintro e w1 ⟨rfl, hw1⟩
  have K1 := Lib.hid (kept1 hw1)
  have HE1 := Lib.hid (HE.out.below hw1)
  clear hw1 HE
  go_wp2_with (first
    | (refine loadMidG rfl 25 _ rfl w.heap.size 0 rfl (hl a) _ (valR K1.out.1) Tryd.underlying25 rfl infoHead ?_)
    | (go_at_call 47; refine (sound_any a H0.out _ HE1.out.tab HE1.out.lt).mono ?_; rintro e w2 ⟨rfl, hw2⟩))
  go_ret
  exact ⟨rfl, (HE1.out.below hw2).2.2⟩
set_option maxHeartbeats 400000 in
theorem csound_loop (a : Nat → Int) (h0 : ∀ j, 0 ≤ a j) (hs : sndB (care a) = true) (hv : sndB a = true) (w : World) (ht : Tab w) (hz : 0 < w.heap.size) :
    Calls Tryd.prog 46 #[.agg (cc a)] w fun e w' => e = .returned (.bool (csnd a)) ∧ Below w.heap.size w w' := by
  have HE := Lib.hid ((show Env w w from ⟨ht, hz, Below.refl _ _⟩).below (below1 w (.cells (cc a) 30)))
  have H0 := Lib.hid h0
  have HY := Lib.hid (csnd_yes hs hv)
  clear ht h0
  go_enter Tryd.func46, Tryd.ntmps46
  go_wp2_with (refine wpList_load_mid rfl 25 _ rfl w.heap.size 12 rfl (hl (care a)) _ (careR (heap_alloc_new _ _)) Tryd.underlying25 rfl infoHead ?_)
  refine (sound_any (care a) (fun j => H0.out _) _ HE.out.tab HE.out.lt).mono ?_
  rintro e w1 ⟨rfl, hw1⟩
  have K1 := Lib.hid (kept1 hw1)
  have HE1 := Lib.hid (HE.out.below hw1)
  clear hw1 HE
  go_wp2_with (refine loadMidG rfl 25 _ rfl w.heap.size 0 rfl (hl a) _ (valR K1.out.1) Tryd.underlying25 rfl infoHead ?_)
  refine (sound_any a H0.out _ HE1.out.tab HE1.out.lt).mono ?_
  rintro e w2 ⟨rfl, hw2⟩
  have K2 := Lib.hid ((hw2.block _ K1.out.2.1).trans K1.out.1)
  have HB := Lib.hid (HE1.out.below hw2).2.2
  clear hw2 HE1 K1
  go_wp2_with (refine wpList_load_mid rfl 25 _ rfl w.heap.size 0 rfl (hl a) _ (valR K2.out) Tryd.underlying25 rfl infoHead ?_)
  go_loop [17] (fun i => ∃ r : Nat, r ≤ 12 ∧ (∀ j, j < r → overB a j = false) ∧ i = .int .i64 r) (fun i => (12 - intOf i).toNat)
  case atStart => exact ⟨0, by omega, fun j h => absurd h (by omega), rfl⟩
  case round =>
    obtain ⟨r, hr, hq, rfl⟩ := hrel
    have HQ := Lib.hid hq
    clear hq
    by_cases hlt : r < 12
    · have hidx := idxHl a r hlt
      have hcell := cellC K2.out (show 12 + r < 24 by omega)
      cases ho : overB a r
      · have ho' : (bits .andNot .u64 (a r) (a (12 + r)) != 0) = false := ho
        have HO := Lib.hid ho
        clear ho
        go_wp2
        go_round
        case rel =>
          refine ⟨r + 1, by omega, fun j hj => ?_, by go_num⟩
          by_cases e : j = r
          · rw [e]; exact HO.out
          · exact HQ.out j (by omega)
        case measure => simp [intOf]; omega
      · have ho' : (bits .andNot .u64 (a r) (a (12 + r)) != 0) = true := ho
        have HO := Lib.hid (csnd_over hlt ho)
        clear ho
        go_wp2
        go_ret
        exact ⟨ret_bool HO.out.symm, HB.out⟩
    · go_wp2
      go_ret
      exact ⟨ret_bool (HY.out fun j hj => HQ.out j (by omega)).symm, HB.out⟩
theorem csound_any (a : Nat → Int) (h0 : ∀ j, 0 ≤ a j) (w : World) (ht : Tab w) (hz : 0 < w.heap.size) :
    Calls Tryd.prog 46 #[.agg (cc a)] w fun e w' => e = .returned (.bool (csnd a)) ∧ Below w.heap.size w w' := by
  cases hs : sndB (care a)
  · rw [csnd_care hs]; exact csound_care a h0 hs w ht hz
  · cases hv : sndB a
    · rw [csnd_val hv]; exact csound_val a h0 hs hv w ht hz
    · exact csound_loop a h0 hs hv w ht hz
end Go.Proofs.YtamjaohoicedfaaDoor
