/- Several of my texts as one: CubeVal, CubeHas, CubeMeet, CubeEq, CubeWith, CubeAns, CubeMath, CubeThr, CubeOrd, CubeFix, BitLen, CubeBit, CubeParM. -/
import Derived.Test.YtomnpfbebimpkaaGreatDoorPackHead
import Derived.Deep.MidRow
import Derived.Outline
import Derived.StillTailTactics
import Derived.Laws.StructEq
import Derived.Laws.BitsAllLaws
import Derived.Test.YtomnpfbebimpkaaGreatDoorProg
import Derived.Lib.Strings
import Derived.Lib.Slices
import Derived.Lib.Small
import Derived.Lib.Walk
import Derived.Lib.BitFns
/-
  Cubes by value: their cells, and the walk of the program's Sound.
-/
namespace Go.Proofs.YtomnpfbebimpkaaGreatDoor
set_option maxRecDepth 20000
open Go.RowKit

/-- a cube's cells: the twelve of Value, then the twelve of Care -/
def cl (a : Nat → Int) : List Value := (List.range 24).map fun j => .int .u64 (a j)
def cc (a : Nat → Int) : Array Value := (cl a).toArray
/-- the numbers of Care -/
def care (a : Nat → Int) : Nat → Int := fun j => a (12 + j)
theorem cc_at (a : Nat → Int) (j : Nat) (h : j < 24) : (cc a)[j]? = some (.int .u64 (a j)) := by
  simp [cc, cl, h]
theorem cc_size (a : Nat → Int) : (cc a).size = 24 := by simp [cc, cl]
theorem cc_one (a : Nat → Int) : (cc a).all (·.oneCell') = true := by
  simp [cc, cl, Value.oneCell']
theorem cellC {w : World} {g j : Nat} {a : Nat → Int} {t : TypeId} {fr : Nat × Nat} (hg : w.heap[g]? = some (.cells (cc a) t fr)) (hj : j < 24) : w.cell? ⟨g, j, none⟩ = some (.int .u64 (a j)) := by
  rw [cell_of_row w g j _ t fr hg, cc_at a j hj]
theorem hl_at (a : Nat → Int) {j : Nat} {v : Value} (h : (hl a)[j]? = some v) : j < 12 ∧ v = .int .u64 (a j) := by
  have hj : j < 12 := by
    have := (List.getElem?_eq_some_iff.1 h).1
    simpa [hl] using this
  have e := hc_at a j hj
  have e' : (hl a)[j]? = some (.int .u64 (a j)) := by
    rw [← e, ← Array.getElem?_toList]; rfl
  rw [h] at e'
  exact ⟨hj, Option.some.inj e'⟩
theorem valR {w : World} {g : Nat} {a : Nat → Int} {t : TypeId} {fr : Nat × Nat} (hg : w.heap[g]? = some (.cells (cc a) t fr)) : w.rangeAt g 0 (hl a) := fun j v hv => by
  obtain ⟨hj, rfl⟩ := hl_at a hv
  rw [Nat.zero_add]
  exact cellC hg (by omega)
theorem careR {w : World} {g : Nat} {a : Nat → Int} {t : TypeId} {fr : Nat × Nat} (hg : w.heap[g]? = some (.cells (cc a) t fr)) : w.rangeAt g 12 (hl (care a)) := fun j v hv => by
  obtain ⟨hj, rfl⟩ := hl_at (care a) hv
  exact cellC hg (by omega)
theorem idxHl (a : Nat → Int) (j : Nat) (hj : j < 12) (w : World) : (Instr.index 35 (.agg (hl a).toArray) (.int .i64 j)).run Tryz.prog w = .ok (.int .u64 (a j)) w := idxHead a j hj w
/-- A load in the middle of a row behind a guard that says yes. -/
theorem loadMidG {P : Program} {ops : Array Oper} {rest : List Oper} {op : Oper} {a : Act} {w : World} {Q : Exit → Act → World → Prop} (hw : Region.wanted op (yielded ops a.tmps) = true) (ty : TypeId) (x : Operand) (ho : op.op = .load ty x)
    (b o : Nat) (hx : a.eval x = .pointer (some ⟨b, o, none⟩)) (cs : List Value) (d : TypeDesc) (hc : w.rangeAt b o cs)
    (hu : P.underlying ty = some d) (hd : d.isRow = true) (hi : (P.info? ty).map (·.size) = some cs.length)
    (h : wpList P ops Q rest (a.put op.dst (.agg cs.toArray)) w) : wpList P ops Q (op :: rest) a w :=
  wpList_step fun K hK => by rw [if_pos hw]; exact wp_load_mid ty x ho b o hx cs d hc hu hd hi (hK _ _ h)
/-- has Value a bit that Care has not? -/
def overB (a : Nat → Int) (j : Nat) : Bool := bits .andNot .u64 (a j) (a (12 + j)) != 0
/-- is a cube sound? -/
def csnd (a : Nat → Int) : Bool := sndB (care a) && sndB a && (List.range 12).all fun j => !overB a j
theorem csnd_care {a : Nat → Int} (h : sndB (care a) = false) : csnd a = false := by simp [csnd, h]
theorem csnd_val {a : Nat → Int} (h : sndB a = false) : csnd a = false := by simp [csnd, h]
theorem csnd_over {a : Nat → Int} {j : Nat} (hj : j < 12) (h : overB a j = true) : csnd a = false := by
  have : ((List.range 12).all fun j => !overB a j) = false := by
    rw [List.all_eq_false]
    exact ⟨j, by simpa using hj, by simp [h]⟩
  simp [csnd, this]
theorem csnd_yes {a : Nat → Int} (h1 : sndB (care a) = true) (h2 : sndB a = true) (h : ∀ j, j < 12 → overB a j = false) : csnd a = true := by
  have : ((List.range 12).all fun j => !overB a j) = true := by
    rw [List.all_eq_true]
    intro j hj
    simp [h j (by simpa using hj)]
  simp [csnd, this, h1, h2]

set_option maxHeartbeats 400000 in
theorem csound_care (a : Nat → Int) (h0 : ∀ j, 0 ≤ a j) (hs : sndB (care a) = false) (w : World) (ht : Tab w) (hz : 0 < w.heap.size) :
    Calls Tryz.prog 114 #[.agg (cc a)] w fun e w' => e = .returned (.bool false) ∧ Below w.heap.size w w' := by
  have HT := Lib.hid (ht.below hz (below1 w (.cells (cc a) 37)))
  have H0 := Lib.hid h0
  clear ht h0
  go_enter Tryz.func114, Tryz.ntmps114
  go_wp2_with (first
    | (refine wpList_load_mid rfl 35 _ rfl w.heap.size 12 rfl (hl (care a)) _ (careR (heap_alloc_new _ _)) Tryz.underlying35 rfl infoHead ?_)
    | (go_at_call 103; refine (sound_any (care a) (fun j => H0.out _) _ HT.out (Nat.lt_of_lt_of_le hz (by simp))).mono ?_; rintro e w1 ⟨rfl, hw1⟩))
  go_ret
  exact ⟨rfl, (below1 _ _).trans (hw1.mono (by simp))⟩
set_option maxHeartbeats 400000 in
theorem csound_val (a : Nat → Int) (h0 : ∀ j, 0 ≤ a j) (hs : sndB (care a) = true) (hv : sndB a = false) (w : World) (ht : Tab w) (hz : 0 < w.heap.size) :
    Calls Tryz.prog 114 #[.agg (cc a)] w fun e w' => e = .returned (.bool false) ∧ Below w.heap.size w w' := by
  have HE := Lib.hid ((show Env w w from ⟨ht, hz, Below.refl _ _⟩).below (below1 w (.cells (cc a) 37)))
  have H0 := Lib.hid h0
  clear ht h0
  go_enter Tryz.func114, Tryz.ntmps114
  go_wp2_with (refine wpList_load_mid rfl 35 _ rfl w.heap.size 12 rfl (hl (care a)) _ (careR (heap_alloc_new _ _)) Tryz.underlying35 rfl infoHead ?_)
  refine (sound_any (care a) (fun j => H0.out _) _ HE.out.tab HE.out.lt).mono ?_
  rintro e w1 ⟨rfl, hw1⟩
  have K1 := Lib.hid (kept1 hw1)
  have HE1 := Lib.hid (HE.out.below hw1)
  clear hw1 HE
  go_wp2_with (first
    | (refine loadMidG rfl 35 _ rfl w.heap.size 0 rfl (hl a) _ (valR K1.out.1) Tryz.underlying35 rfl infoHead ?_)
    | (go_at_call 103; refine (sound_any a H0.out _ HE1.out.tab HE1.out.lt).mono ?_; rintro e w2 ⟨rfl, hw2⟩))
  go_ret
  exact ⟨rfl, (HE1.out.below hw2).2.2⟩
set_option maxHeartbeats 400000 in
theorem csound_loop (a : Nat → Int) (h0 : ∀ j, 0 ≤ a j) (hs : sndB (care a) = true) (hv : sndB a = true) (w : World) (ht : Tab w) (hz : 0 < w.heap.size) :
    Calls Tryz.prog 114 #[.agg (cc a)] w fun e w' => e = .returned (.bool (csnd a)) ∧ Below w.heap.size w w' := by
  have HE := Lib.hid ((show Env w w from ⟨ht, hz, Below.refl _ _⟩).below (below1 w (.cells (cc a) 37)))
  have H0 := Lib.hid h0
  have HY := Lib.hid (csnd_yes hs hv)
  clear ht h0
  go_enter Tryz.func114, Tryz.ntmps114
  go_wp2_with (refine wpList_load_mid rfl 35 _ rfl w.heap.size 12 rfl (hl (care a)) _ (careR (heap_alloc_new _ _)) Tryz.underlying35 rfl infoHead ?_)
  refine (sound_any (care a) (fun j => H0.out _) _ HE.out.tab HE.out.lt).mono ?_
  rintro e w1 ⟨rfl, hw1⟩
  have K1 := Lib.hid (kept1 hw1)
  have HE1 := Lib.hid (HE.out.below hw1)
  clear hw1 HE
  go_wp2_with (refine loadMidG rfl 35 _ rfl w.heap.size 0 rfl (hl a) _ (valR K1.out.1) Tryz.underlying35 rfl infoHead ?_)
  refine (sound_any a H0.out _ HE1.out.tab HE1.out.lt).mono ?_
  rintro e w2 ⟨rfl, hw2⟩
  have K2 := Lib.hid ((hw2.block _ K1.out.2.1).trans K1.out.1)
  have HB := Lib.hid (HE1.out.below hw2).2.2
  clear hw2 HE1 K1
  go_wp2_with (refine wpList_load_mid rfl 35 _ rfl w.heap.size 0 rfl (hl a) _ (valR K2.out) Tryz.underlying35 rfl infoHead ?_)
  go_loop [17] (fun i => ∃ r : Nat, r ≤ 12 ∧ (∀ j, j < r → overB a j = false) ∧ i = .int .i64 r) (fun i => (12 - intOf i).toNat)
  case atStart => exact ⟨0, by omega, fun j h => absurd h (by omega), rfl⟩
  case round =>
    obtain ⟨r, hr, hq, rfl⟩ := hrel
    have HQ := Lib.hid hq
    clear hq
    by_cases hlt : r < 12
    · have hidx := idxHl a r hlt
      have hcell := cellC K2.out (show 12 + r < 24 by omega)
      cases ho : overB a r
      · have ho' : (bits .andNot .u64 (a r) (a (12 + r)) != 0) = false := ho
        have HO := Lib.hid ho
        clear ho
        go_wp2
        go_round
        case rel =>
          refine ⟨r + 1, by omega, fun j hj => ?_, by go_num⟩
          by_cases e : j = r
          · rw [e]; exact HO.out
          · exact HQ.out j (by omega)
        case measure => simp [intOf]; omega
      · have ho' : (bits .andNot .u64 (a r) (a (12 + r)) != 0) = true := ho
        have HO := Lib.hid (csnd_over hlt ho)
        clear ho
        go_wp2
        go_ret
        exact ⟨ret_bool HO.out.symm, HB.out⟩
    · go_wp2
      go_ret
      exact ⟨ret_bool (HY.out fun j hj => HQ.out j (by omega)).symm, HB.out⟩
theorem csound_any (a : Nat → Int) (h0 : ∀ j, 0 ≤ a j) (w : World) (ht : Tab w) (hz : 0 < w.heap.size) :
    Calls Tryz.prog 114 #[.agg (cc a)] w fun e w' => e = .returned (.bool (csnd a)) ∧ Below w.heap.size w w' := by
  cases hs : sndB (care a)
  · rw [csnd_care hs]; exact csound_care a h0 hs w ht hz
  · cases hv : sndB a
    · rw [csnd_val hv]; exact csound_val a h0 hs hv w ht hz
    · exact csound_loop a h0 hs hv w ht hz
end Go.Proofs.YtomnpfbebimpkaaGreatDoor

/-
  The walk of the program's Has.
-/
namespace Go.Proofs.YtomnpfbebimpkaaGreatDoor
set_option maxRecDepth 20000
open Go.RowKit

/-- a row lies in a block of its own -/
def Blk (b : Nat) (cs : Array Value) (t : TypeId) (W : World) : Prop := W.heap[b]? = some (.cells cs t (0, 0))
section
variable {b : Nat} {cs : Array Value} {t : TypeId} {W W' : World}
theorem Blk.lt (h : Blk b cs t W) : b < W.heap.size := (Array.getElem?_eq_some_iff.1 (show W.heap[b]? = some _ from h)).1
theorem Blk.below (h : Blk b cs t W) (hb : Below W.heap.size W W') : Blk b cs t W' := (hb.block b h.lt).trans h
theorem Blk.new (W : World) (cs : Array Value) (t : TypeId) : Blk W.heap.size cs t (W.alloc (.cells cs t)) := heap_alloc_new _ _
theorem Blk.new2 (W : World) (o : Obj) (cs : Array Value) (t : TypeId) : Blk (W.heap.size + 1) cs t ((W.alloc o).alloc (.cells cs t)) := heap_alloc2_new _ _ _
theorem Blk.old (h : Blk b cs t W) (o : Obj) : Blk b cs t (W.alloc o) := h.below (below1 _ _)
theorem Blk.drew (h : Blk b cs t W) : Blk b cs t W.drew := h
theorem Blk.drewN (h : Blk b cs t W) : ∀ n, Blk b cs t (W.drewN n)
  | 0 => h
  | n + 1 => h.drewN n
theorem Env.drewN {w W : World} (h : Env w W) : ∀ n, Env w (W.drewN n)
  | 0 => h
  | n + 1 => (h.drewN n).drew
theorem Env.start {w : World} (ht : Tab w) (hz : 0 < w.heap.size) : Env w w := ⟨ht, hz, Below.refl _ _⟩
theorem Env.alloc {w W : World} (h : Env w W) (o : Obj) : Env w (W.alloc o) := h.below (below1 _ _)
theorem Env.kept {w W : World} (h : Env w W) : Below w.heap.size w W := h.2.2
end
/-- does a header have other bits than Value where Care has ones? -/
def offB (c h : Nat → Int) (j : Nat) : Bool := bits .and .u64 (h j) (c (12 + j)) != c j
/-- is a header in a cube? -/
def hasB (c h : Nat → Int) : Bool := csnd c && sndB h && (List.range 12).all fun j => !offB c h j
theorem hasB_cube {c h : Nat → Int} (e : csnd c = false) : hasB c h = false := by simp [hasB, e]
theorem hasB_head {c h : Nat → Int} (e : sndB h = false) : hasB c h = false := by simp [hasB, e]
theorem hasB_off {c h : Nat → Int} {j : Nat} (hj : j < 12) (e : offB c h j = true) : hasB c h = false := by
  have : ((List.range 12).all fun j => !offB c h j) = false := by
    rw [List.all_eq_false]
    exact ⟨j, by simpa using hj, by simp [e]⟩
  simp [hasB, this]
theorem hasB_yes {c h : Nat → Int} (h1 : csnd c = true) (h2 : sndB h = true) (e : ∀ j, j < 12 → offB c h j = false) : hasB c h = true := by
  have : ((List.range 12).all fun j => !offB c h j) = true := by
    rw [List.all_eq_true]
    intro j hj
    simp [e j (by simpa using hj)]
  simp [hasB, this, h1, h2]
/-- A load of a whole row behind a guard that says yes. -/
theorem loadRowG {P : Program} {ops : Array Oper} {rest : List Oper} {o : Oper} {a : Act} {w : World} {Q : Exit → Act → World → Prop} (hw : Region.wanted o (yielded ops a.tmps) = true) (ty : TypeId) (x : Operand) (ho : o.op = .load ty x)
    (g : Nat) (hx : a.eval x = .pointer (some ⟨g, 0, none⟩)) (t : TypeId) (cs : Array Value) (fr : Nat × Nat) {d : TypeDesc} (hg : w.heap[g]? = some (.cells cs t fr))
    (hu : P.underlying ty = some d) (hd : d.isRow = true) (hi : (P.info? ty).map (·.size) = some cs.size)
    (h : wpList P ops Q rest (a.put o.dst (.agg cs)) w) : wpList P ops Q (o :: rest) a w :=
  wpList_step fun K hK => by rw [if_pos hw]; exact wp_load_row ty x ho g hx t cs fr d hg hu (by cases d <;> first | rfl | (simp [TypeDesc.isRow] at hd)) hi (hK _ _ h)
theorem infoCube : (Tryz.prog.info? 37).map (·.size) = some 24 := by kernel_rfl

set_option maxHeartbeats 400000 in
theorem chas_cube (c h : Nat → Int) (c0 : ∀ j, 0 ≤ c j) (w : World) (ht : Tab w) (hz : 0 < w.heap.size) (hs : csnd c = false) :
    Calls Tryz.prog 78 #[.agg (cc c), .agg (hc h)] w fun e w' => e = .returned (.bool false) ∧ Below w.heap.size w w' := by
  have HE := Lib.hid (((Env.start ht hz).alloc (.cells (cc c) 37)).alloc (.cells (hc h) 35))
  have R0 := Lib.hid ((Blk.new w (cc c) 37).old (.cells (hc h) 35))
  have C0 := Lib.hid c0
  clear ht c0
  go_enter Tryz.func78, Tryz.ntmps78
  go_wp2_with (refine wpList_load_row rfl 37 _ rfl w.heap.size rfl 37 (cc c) (0, 0) _ R0.out Tryz.underlying37 rfl (by kernel_rfl) ?_)
  refine (csound_any c C0.out _ HE.out.tab HE.out.lt).mono ?_
  rintro e w1 ⟨rfl, hw1⟩
  go_wp2
  go_ret
  exact ⟨rfl, (HE.out.below hw1).kept⟩
set_option maxHeartbeats 400000 in
theorem chas_head (c h : Nat → Int) (c0 : ∀ j, 0 ≤ c j) (h0 : ∀ j, 0 ≤ h j) (w : World) (ht : Tab w) (hz : 0 < w.heap.size) (hs : csnd c = true) (hh : sndB h = false) :
    Calls Tryz.prog 78 #[.agg (cc c), .agg (hc h)] w fun e w' => e = .returned (.bool false) ∧ Below w.heap.size w w' := by
  have HE := Lib.hid (((Env.start ht hz).alloc (.cells (cc c) 37)).alloc (.cells (hc h) 35))
  have R0 := Lib.hid ((Blk.new w (cc c) 37).old (.cells (hc h) 35))
  have C0 := Lib.hid c0
  have R1 := Lib.hid (Blk.new2 w (.cells (cc c) 37) (hc h) 35)
  have H0 := Lib.hid h0
  clear ht c0 h0
  go_enter Tryz.func78, Tryz.ntmps78
  go_wp2_with (refine wpList_load_row rfl 37 _ rfl w.heap.size rfl 37 (cc c) (0, 0) _ R0.out Tryz.underlying37 rfl (by kernel_rfl) ?_)
  refine (csound_any c C0.out _ HE.out.tab HE.out.lt).mono ?_
  rintro e w1 ⟨rfl, hw1⟩
  have R1' := Lib.hid (R1.out.below hw1)
  have HE' := Lib.hid (HE.out.below hw1)
  clear hw1 HE R0 R1
  go_wp2_with (refine loadRowG rfl 35 _ rfl (w.heap.size + 1) rfl 35 (hc h) (0, 0) R1'.out Tryz.underlying35 rfl (by kernel_rfl) ?_)
  refine (sound_any h H0.out _ HE'.out.tab HE'.out.lt).mono ?_
  rintro e w2 ⟨rfl, hw2⟩
  go_wp2
  go_ret
  exact ⟨rfl, (HE'.out.below hw2).kept⟩
set_option maxHeartbeats 400000 in
theorem chas_loop (c h : Nat → Int) (c0 : ∀ j, 0 ≤ c j) (h0 : ∀ j, 0 ≤ h j) (w : World) (ht : Tab w) (hz : 0 < w.heap.size) (hs : csnd c = true) (hh : sndB h = true) :
    Calls Tryz.prog 78 #[.agg (cc c), .agg (hc h)] w fun e w' => e = .returned (.bool (hasB c h)) ∧ Below w.heap.size w w' := by
  have HE := Lib.hid (((Env.start ht hz).alloc (.cells (cc c) 37)).alloc (.cells (hc h) 35))
  have R0 := Lib.hid ((Blk.new w (cc c) 37).old (.cells (hc h) 35))
  have C0 := Lib.hid c0
  have R1 := Lib.hid (Blk.new2 w (.cells (cc c) 37) (hc h) 35)
  have H0 := Lib.hid h0
  have HY := Lib.hid (hasB_yes hs hh)
  clear ht c0 h0
  go_enter Tryz.func78, Tryz.ntmps78
  go_wp2_with (refine wpList_load_row rfl 37 _ rfl w.heap.size rfl 37 (cc c) (0, 0) _ R0.out Tryz.underlying37 rfl (by kernel_rfl) ?_)
  refine (csound_any c C0.out _ HE.out.tab HE.out.lt).mono ?_
  rintro e w1 ⟨rfl, hw1⟩
  have R0' := Lib.hid (R0.out.below hw1)
  have R1' := Lib.hid (R1.out.below hw1)
  have HE' := Lib.hid (HE.out.below hw1)
  clear hw1 HE R0 R1
  go_wp2_with (refine loadRowG rfl 35 _ rfl (w.heap.size + 1) rfl 35 (hc h) (0, 0) R1'.out Tryz.underlying35 rfl (by kernel_rfl) ?_)
  refine (sound_any h H0.out _ HE'.out.tab HE'.out.lt).mono ?_
  rintro e w2 ⟨rfl, hw2⟩
  have R02 := Lib.hid (R0'.out.below hw2)
  have R12 := Lib.hid (R1'.out.below hw2)
  have HE2 := Lib.hid (HE'.out.below hw2)
  clear hw2 HE' R0' R1'
  go_wp2_with (refine wpList_load_row rfl 35 _ rfl (w.heap.size + 1) rfl 35 (hc h) (0, 0) _ R12.out Tryz.underlying35 rfl (by kernel_rfl) ?_)
  clear hs hh
  go_loopw [16] (fun i wr => ∃ r : Nat, r ≤ 12 ∧ (∀ j, j < r → offB c h j = false) ∧ i = .int .i64 r ∧ Blk w.heap.size (cc c) 37 wr ∧ Env w wr) (fun i _ => (12 - intOf i).toNat)
  case atStart => exact ⟨0, by omega, fun j h => absurd h (by omega), rfl, R02.out, HE2.out⟩
  case round =>
    obtain ⟨r, hr, hq, rfl, hrow, henv⟩ := hrel
    have HQ := Lib.hid hq
    have HR := Lib.hid hrow
    have HV := Lib.hid henv
    clear hq hrow henv
    by_cases hlt : r < 12
    · have hidx := idxHead h r hlt
      have k1 := cellC HR.out (show 12 + r < 24 by omega)
      have k2 := cellC HR.out (show r < 24 by omega)
      cases ho : offB c h r
      · have ho' : (bits .and .u64 (h r) (c (12 + r)) != c r) = false := ho
        have HO := Lib.hid ho
        clear ho
        go_wp2
        go_quiet (fail)
        go_wp2
        go_roundw
        case rel =>
          refine ⟨r + 1, by omega, fun j hj => ?_, by go_num, HR.out.drewN _, HV.out.drewN _⟩
          by_cases e : j = r
          · rw [e]; exact HO.out
          · exact HQ.out j (by omega)
        case measure => simp [intOf]; omega
      · have ho' : (bits .and .u64 (h r) (c (12 + r)) != c r) = true := ho
        have HO := Lib.hid (hasB_off hlt ho)
        clear ho
        go_wp2
        go_quiet (fail)
        go_wp2
        go_ret
        exact ⟨ret_bool HO.out.symm, (HV.out.drewN _).kept⟩
    · go_wp2
      go_ret
      exact ⟨ret_bool (HY.out fun j hj => HQ.out j (by omega)).symm, HV.out.kept⟩
theorem chas_any (c h : Nat → Int) (c0 : ∀ j, 0 ≤ c j) (h0 : ∀ j, 0 ≤ h j) (w : World) (ht : Tab w) (hz : 0 < w.heap.size) :
    Calls Tryz.prog 78 #[.agg (cc c), .agg (hc h)] w fun e w' => e = .returned (.bool (hasB c h)) ∧ Below w.heap.size w w' := by
  cases hs : csnd c
  · rw [hasB_cube hs]; exact chas_cube c h c0 w ht hz hs
  · cases hv : sndB h
    · rw [hasB_head hv]; exact chas_head c h c0 h0 w ht hz hs hv
    · exact chas_loop c h c0 h0 w ht hz hs hv
end Go.Proofs.YtomnpfbebimpkaaGreatDoor

/-
  The walk of the program's Meet.
-/
namespace Go.Proofs.YtomnpfbebimpkaaGreatDoor
set_option maxRecDepth 20000
open Go.RowKit

theorem Tab.setRow {W : World} (h : Tab W) {g : Nat} (hg : 0 ≠ g) (cs : Array Value) : Tab (W.setRow g cs) :=
  ⟨fun k hk => ⟨(cell_setRow_other W g cs _ hg).trans (h.1 k hk).1, (cell_setRow_other W g cs _ hg).trans (h.1 k hk).2⟩, by
    obtain ⟨t, fr, hf⟩ := h.2
    exact ⟨t, fr, (setRow_other _ _ _ _ hg).trans hf⟩⟩
theorem Env.setRow {w W : World} (h : Env w W) (hw : 0 < w.heap.size) {g : Nat} (hg : w.heap.size ≤ g) (cs : Array Value) : Env w (W.setRow g cs) :=
  ⟨h.1.setRow (by omega) cs, by rw [setRow_size]; exact h.2.1, below_setRow h.2.2 hg cs⟩
theorem belowDrewN (W : World) : ∀ n, Below W.heap.size W (W.drewN n)
  | 0 => Below.refl _ _
  | n + 1 => (belowDrewN W n).drew
theorem Tab.setCell {W : World} (h : Tab W) {g k : Nat} (hg : 0 ≠ g) (v : Value) : Tab (W.setCell ⟨g, k, none⟩ v) := by
  have hb : (W.setCell ⟨g, k, none⟩ v).heap[0]? = W.heap[0]? := heap_setCell_other W _ _ v hg
  refine ⟨fun j hj => ⟨(World.cell?_of_block (a := ⟨0, j * 2, none⟩) hb).trans (h.1 j hj).1, (World.cell?_of_block (a := ⟨0, j * 2 + 1, none⟩) hb).trans (h.1 j hj).2⟩, ?_⟩
  obtain ⟨t, fr, hf⟩ := h.2
  exact ⟨t, fr, hb.trans hf⟩
theorem cc_ext {x : Array Value} {a : Nat → Int} (hs : x.size = 24) (h : ∀ j, j < 24 → x[j]? = some (.int .u64 (a j))) : x = cc a := by
  apply Array.ext_getElem?
  intro i
  by_cases hi : i < 24
  · rw [h i hi, cc_at a i hi]
  · rw [Array.getElem?_eq_none (by omega), Array.getElem?_eq_none (by rw [cc_size]; omega)]
theorem cc_set (a : Nat → Int) (v : Int) (k : Nat) (_ : k < 24) : (cc a).setIfInBounds k (.int .u64 v) = cc (upd a k v) := by
  refine cc_ext (by rw [Array.size_setIfInBounds, cc_size]) fun j hj => ?_
  rw [Array.getElem?_setIfInBounds, cc_size]
  unfold upd
  by_cases e : k = j
  · subst e; simp [hj]
  · rw [if_neg e, cc_at a j hj, if_neg (fun h => e h.symm)]
section
variable {b : Nat} {a : Nat → Int} {t : TypeId} {W : World}
theorem Blk.cset (h : Blk b (cc a) t W) {k : Nat} (hk : k < 24) (v : Int) : Blk b (cc (upd a k v)) t (W.setCell ⟨b, k, none⟩ (.int .u64 v)) := by
  unfold Blk
  rw [heap_setCell_same W b k (cc a) t _ h, cc_set a v k hk]
theorem Blk.cother {cs : Array Value} (h : Blk b cs t W) {g k : Nat} (hg : b ≠ g) (v : Value) : Blk b cs t (W.setCell ⟨g, k, none⟩ v) := (heap_setCell_other W ⟨g, k, none⟩ b v hg).trans h
theorem Blk.rset {cs : Array Value} (h : Blk b cs t W) (ds : Array Value) : Blk b ds t (W.setRow b ds) := setRow_heap _ _ _ _ _ _ h
theorem Blk.rother {cs : Array Value} (h : Blk b cs t W) {g : Nat} (hg : b ≠ g) (ds : Array Value) : Blk b cs t (W.setRow g ds) := (setRow_other _ _ _ _ hg).trans h
end
/-- do two cubes fix a bit of a field otherwise? -/
def clashB (a b : Nat → Int) (j : Nat) : Bool := bits .and .u64 (bits .and .u64 (bits .xor .u64 (a j) (b j)) (a (12 + j))) (b (12 + j)) != 0
/-- have two cubes a header in common? -/
def metB (a b : Nat → Int) : Bool := csnd a && csnd b && (List.range 12).all fun j => !clashB a b j
def orC (a b : Nat → Int) : Nat → Int := fun j => bits .or .u64 (a j) (b j)
/-- what two cubes have in common -/
def metV (a b : Nat → Int) : Nat → Int := if metB a b then orC a b else zh
/-- the first fields of it -/
def orTo (a b : Nat → Int) (r : Nat) : Nat → Int := fun j => if j < r ∨ (12 ≤ j ∧ j < 12 + r) then orC a b j else 0
theorem orTo_zero (a b : Nat → Int) : orTo a b 0 = zh := by
  funext j; simp [orTo, zh]; omega
theorem orTo_succ (a b : Nat → Int) (r : Nat) (h : r < 12) : upd (upd (orTo a b r) (12 + r) (orC a b (12 + r))) r (orC a b r) = orTo a b (r + 1) := by
  funext j
  unfold upd orTo
  by_cases e1 : j = r
  · subst e1; simp
  · by_cases e2 : j = 12 + r
    · subst e2; simp
    · rw [if_neg e1, if_neg e2]
      by_cases h : j < r ∨ (12 ≤ j ∧ j < 12 + r)
      · rw [if_pos h, if_pos (by omega)]
      · rw [if_neg h, if_neg (by omega)]
theorem orTo_all (a b : Nat → Int) : cc (orTo a b 12) = cc (orC a b) := by
  refine cc_ext (cc_size _) fun j hj => ?_
  rw [cc_at _ j hj]
  unfold orTo
  rw [if_pos (by omega)]
theorem metB_l {a b : Nat → Int} (h : csnd a = false) : metB a b = false := by simp [metB, h]
theorem metB_r {a b : Nat → Int} (h : csnd b = false) : metB a b = false := by simp [metB, h]
theorem metB_clash {a b : Nat → Int} {j : Nat} (hj : j < 12) (e : clashB a b j = true) : metB a b = false := by
  have : ((List.range 12).all fun j => !clashB a b j) = false := by
    rw [List.all_eq_false]
    exact ⟨j, by simpa using hj, by simp [e]⟩
  simp [metB, this]
theorem metB_yes {a b : Nat → Int} (h1 : csnd a = true) (h2 : csnd b = true) (e : ∀ j, j < 12 → clashB a b j = false) : metB a b = true := by
  have : ((List.range 12).all fun j => !clashB a b j) = true := by
    rw [List.all_eq_true]
    intro j hj
    simp [e j (by simpa using hj)]
  simp [metB, this, h1, h2]
/-- a result in memory beside a plain one -/
theorem res_row {fn : Func} {p u : Tmp} {ty : TypeId} (h : fn.results = #[.cell p ty, .tmp u]) {tmps : Array Value} {P : Program} {w : World} {g : Nat} {t : TypeId} {cs : Array Value} {d : TypeDesc} {x : Value}
    (hp : tmps.getD p undef = .pointer (some ⟨g, 0, none⟩)) (hx : tmps.getD u undef = x) (hg : Blk g cs t w)
    (hu : P.underlying ty = some d) (hd : d.isRow = true) (hi : (P.info? ty).map (·.size) = some cs.size) :
    (results fn tmps).run P w = .ok (.tuple #[.agg cs, x]) w := by
  rw [results_cell_tmp h, hp, hx]
  simp [asAddr, run_loadVar_row w g t ty cs (0, 0) d hg hu (by cases d <;> first | rfl | (simp [TypeDesc.isRow] at hd)) hi]
theorem Blk.new3 (W : World) (o p : Obj) (cs : Array Value) (t : TypeId) : Blk (W.heap.size + 1 + 1) cs t (((W.alloc o).alloc p).alloc (.cells cs t)) := by
  have := Blk.new2 (W.alloc o) p cs t
  simpa using this

set_option maxHeartbeats 400000 in
theorem cmeet_l (a b : Nat → Int) (a0 : ∀ j, 0 ≤ a j) (w : World) (ht : Tab w) (hz : 0 < w.heap.size) (hs : csnd a = false) :
    Calls Tryz.prog 151 #[.agg (cc a), .agg (cc b)] w fun e w' => e = .returned (.tuple #[.agg (cc zh), .bool false]) ∧ Below w.heap.size w w' := by
  have HE := Lib.hid ((((Env.start ht hz).alloc (.cells (cc a) 37)).alloc (.cells (cc b) 37)).alloc (.cells #[Value.int IntKind.u64 0, Value.int IntKind.u64 0, Value.int IntKind.u64 0, Value.int IntKind.u64 0, Value.int IntKind.u64 0, Value.int IntKind.u64 0, Value.int IntKind.u64 0, Value.int IntKind.u64 0, Value.int IntKind.u64 0, Value.int IntKind.u64 0, Value.int IntKind.u64 0, Value.int IntKind.u64 0, Value.int IntKind.u64 0, Value.int IntKind.u64 0, Value.int IntKind.u64 0, Value.int IntKind.u64 0, Value.int IntKind.u64 0, Value.int IntKind.u64 0, Value.int IntKind.u64 0, Value.int IntKind.u64 0, Value.int IntKind.u64 0, Value.int IntKind.u64 0, Value.int IntKind.u64 0, Value.int IntKind.u64 0] 37))
  have R0 := Lib.hid (((Blk.new w (cc a) 37).old (.cells (cc b) 37)).old (.cells #[Value.int IntKind.u64 0, Value.int IntKind.u64 0, Value.int IntKind.u64 0, Value.int IntKind.u64 0, Value.int IntKind.u64 0, Value.int IntKind.u64 0, Value.int IntKind.u64 0, Value.int IntKind.u64 0, Value.int IntKind.u64 0, Value.int IntKind.u64 0, Value.int IntKind.u64 0, Value.int IntKind.u64 0, Value.int IntKind.u64 0, Value.int IntKind.u64 0, Value.int IntKind.u64 0, Value.int IntKind.u64 0, Value.int IntKind.u64 0, Value.int IntKind.u64 0, Value.int IntKind.u64 0, Value.int IntKind.u64 0, Value.int IntKind.u64 0, Value.int IntKind.u64 0, Value.int IntKind.u64 0, Value.int IntKind.u64 0] 37))
  have R2 := Lib.hid (Blk.new3 w (.cells (cc a) 37) (.cells (cc b) 37) #[Value.int IntKind.u64 0, Value.int IntKind.u64 0, Value.int IntKind.u64 0, Value.int IntKind.u64 0, Value.int IntKind.u64 0, Value.int IntKind.u64 0, Value.int IntKind.u64 0, Value.int IntKind.u64 0, Value.int IntKind.u64 0, Value.int IntKind.u64 0, Value.int IntKind.u64 0, Value.int IntKind.u64 0, Value.int IntKind.u64 0, Value.int IntKind.u64 0, Value.int IntKind.u64 0, Value.int IntKind.u64 0, Value.int IntKind.u64 0, Value.int IntKind.u64 0, Value.int IntKind.u64 0, Value.int IntKind.u64 0, Value.int IntKind.u64 0, Value.int IntKind.u64 0, Value.int IntKind.u64 0, Value.int IntKind.u64 0] 37)
  have A0 := Lib.hid a0
  clear ht a0
  go_enter Tryz.func151, Tryz.ntmps151
  go_wp2_with (refine wpList_load_row rfl 37 _ rfl w.heap.size rfl 37 (cc a) (0, 0) _ R0.out Tryz.underlying37 rfl (by kernel_rfl) ?_)
  refine (csound_any a A0.out _ HE.out.tab HE.out.lt).mono ?_
  rintro e w1 ⟨rfl, hw1⟩
  have R2' := Lib.hid (R2.out.below hw1)
  have HB := Lib.hid (HE.out.below hw1).kept
  clear hw1 HE R0 R2
  go_wp2_with (refine wpList_store_row rfl 37 _ _ rfl (w.heap.size + 1 + 1) #[Value.int IntKind.u64 0, Value.int IntKind.u64 0, Value.int IntKind.u64 0, Value.int IntKind.u64 0, Value.int IntKind.u64 0, Value.int IntKind.u64 0, Value.int IntKind.u64 0, Value.int IntKind.u64 0, Value.int IntKind.u64 0, Value.int IntKind.u64 0, Value.int IntKind.u64 0, Value.int IntKind.u64 0, Value.int IntKind.u64 0, Value.int IntKind.u64 0, Value.int IntKind.u64 0, Value.int IntKind.u64 0, Value.int IntKind.u64 0, Value.int IntKind.u64 0, Value.int IntKind.u64 0, Value.int IntKind.u64 0, Value.int IntKind.u64 0, Value.int IntKind.u64 0, Value.int IntKind.u64 0, Value.int IntKind.u64 0] rfl rfl 37 _ R2'.out (by kernel_rfl) rfl (by kernel_rfl) ?_)
  refine bodyPost_ret (v := .tuple #[.agg (cc zh), .bool false]) ?_ rfl ⟨rfl, below_setRow HB.out (by omega) _⟩
  exact res_row Tryz.results151 (cs := cc zh) rfl rfl (R2'.out.rset _) Tryz.underlying37 rfl (by kernel_rfl)
set_option maxHeartbeats 400000 in
theorem cmeet_r (a b : Nat → Int) (a0 : ∀ j, 0 ≤ a j) (b0 : ∀ j, 0 ≤ b j) (w : World) (ht : Tab w) (hz : 0 < w.heap.size) (hs : csnd a = true) (hb : csnd b = false) :
    Calls Tryz.prog 151 #[.agg (cc a), .agg (cc b)] w fun e w' => e = .returned (.tuple #[.agg (cc zh), .bool false]) ∧ Below w.heap.size w w' := by
  have HE := Lib.hid ((((Env.start ht hz).alloc (.cells (cc a) 37)).alloc (.cells (cc b) 37)).alloc (.cells #[Value.int IntKind.u64 0, Value.int IntKind.u64 0, Value.int IntKind.u64 0, Value.int IntKind.u64 0, Value.int IntKind.u64 0, Value.int IntKind.u64 0, Value.int IntKind.u64 0, Value.int IntKind.u64 0, Value.int IntKind.u64 0, Value.int IntKind.u64 0, Value.int IntKind.u64 0, Value.int IntKind.u64 0, Value.int IntKind.u64 0, Value.int IntKind.u64 0, Value.int IntKind.u64 0, Value.int IntKind.u64 0, Value.int IntKind.u64 0, Value.int IntKind.u64 0, Value.int IntKind.u64 0, Value.int IntKind.u64 0, Value.int IntKind.u64 0, Value.int IntKind.u64 0, Value.int IntKind.u64 0, Value.int IntKind.u64 0] 37))
  have R0 := Lib.hid (((Blk.new w (cc a) 37).old (.cells (cc b) 37)).old (.cells #[Value.int IntKind.u64 0, Value.int IntKind.u64 0, Value.int IntKind.u64 0, Value.int IntKind.u64 0, Value.int IntKind.u64 0, Value.int IntKind.u64 0, Value.int IntKind.u64 0, Value.int IntKind.u64 0, Value.int IntKind.u64 0, Value.int IntKind.u64 0, Value.int IntKind.u64 0, Value.int IntKind.u64 0, Value.int IntKind.u64 0, Value.int IntKind.u64 0, Value.int IntKind.u64 0, Value.int IntKind.u64 0, Value.int IntKind.u64 0, Value.int IntKind.u64 0, Value.int IntKind.u64 0, Value.int IntKind.u64 0, Value.int IntKind.u64 0, Value.int IntKind.u64 0, Value.int IntKind.u64 0, Value.int IntKind.u64 0] 37))
  have R1 := Lib.hid ((Blk.new2 w (.cells (cc a) 37) (cc b) 37).old (.cells #[Value.int IntKind.u64 0, Value.int IntKind.u64 0, Value.int IntKind.u64 0, Value.int IntKind.u64 0, Value.int IntKind.u64 0, Value.int IntKind.u64 0, Value.int IntKind.u64 0, Value.int IntKind.u64 0, Value.int IntKind.u64 0, Value.int IntKind.u64 0, Value.int IntKind.u64 0, Value.int IntKind.u64 0, Value.int IntKind.u64 0, Value.int IntKind.u64 0, Value.int IntKind.u64 0, Value.int IntKind.u64 0, Value.int IntKind.u64 0, Value.int IntKind.u64 0, Value.int IntKind.u64 0, Value.int IntKind.u64 0, Value.int IntKind.u64 0, Value.int IntKind.u64 0, Value.int IntKind.u64 0, Value.int IntKind.u64 0] 37))
  have R2 := Lib.hid (Blk.new3 w (.cells (cc a) 37) (.cells (cc b) 37) #[Value.int IntKind.u64 0, Value.int IntKind.u64 0, Value.int IntKind.u64 0, Value.int IntKind.u64 0, Value.int IntKind.u64 0, Value.int IntKind.u64 0, Value.int IntKind.u64 0, Value.int IntKind.u64 0, Value.int IntKind.u64 0, Value.int IntKind.u64 0, Value.int IntKind.u64 0, Value.int IntKind.u64 0, Value.int IntKind.u64 0, Value.int IntKind.u64 0, Value.int IntKind.u64 0, Value.int IntKind.u64 0, Value.int IntKind.u64 0, Value.int IntKind.u64 0, Value.int IntKind.u64 0, Value.int IntKind.u64 0, Value.int IntKind.u64 0, Value.int IntKind.u64 0, Value.int IntKind.u64 0, Value.int IntKind.u64 0] 37)
  have A0 := Lib.hid a0
  have B0 := Lib.hid b0
  clear ht a0 b0
  go_enter Tryz.func151, Tryz.ntmps151
  go_wp2_with (refine wpList_load_row rfl 37 _ rfl w.heap.size rfl 37 (cc a) (0, 0) _ R0.out Tryz.underlying37 rfl (by kernel_rfl) ?_)
  refine (csound_any a A0.out _ HE.out.tab HE.out.lt).mono ?_
  rintro e w1 ⟨rfl, hw1⟩
  have R01 := Lib.hid (R0.out.below hw1)
  have R11 := Lib.hid (R1.out.below hw1)
  have R21 := Lib.hid (R2.out.below hw1)
  have HE1 := Lib.hid (HE.out.below hw1)
  clear hw1 HE R0 R1 R2
  go_wp2_with (refine loadRowG rfl 37 _ rfl (w.heap.size + 1) rfl 37 (cc b) (0, 0) R11.out Tryz.underlying37 rfl (by kernel_rfl) ?_)
  refine (csound_any b B0.out _ HE1.out.tab HE1.out.lt).mono ?_
  rintro e w2 ⟨rfl, hw2⟩
  have R02 := Lib.hid (R01.out.below hw2)
  have R12 := Lib.hid (R11.out.below hw2)
  have R22 := Lib.hid (R21.out.below hw2)
  have HB := Lib.hid (HE1.out.below hw2).kept
  clear hw2 HE1 R01 R11 R21
  go_wp2_with (refine wpList_store_row rfl 37 _ _ rfl (w.heap.size + 1 + 1) #[Value.int IntKind.u64 0, Value.int IntKind.u64 0, Value.int IntKind.u64 0, Value.int IntKind.u64 0, Value.int IntKind.u64 0, Value.int IntKind.u64 0, Value.int IntKind.u64 0, Value.int IntKind.u64 0, Value.int IntKind.u64 0, Value.int IntKind.u64 0, Value.int IntKind.u64 0, Value.int IntKind.u64 0, Value.int IntKind.u64 0, Value.int IntKind.u64 0, Value.int IntKind.u64 0, Value.int IntKind.u64 0, Value.int IntKind.u64 0, Value.int IntKind.u64 0, Value.int IntKind.u64 0, Value.int IntKind.u64 0, Value.int IntKind.u64 0, Value.int IntKind.u64 0, Value.int IntKind.u64 0, Value.int IntKind.u64 0] rfl rfl 37 _ R22.out (by kernel_rfl) rfl (by kernel_rfl) ?_)
  refine bodyPost_ret (v := .tuple #[.agg (cc zh), .bool false]) ?_ rfl ⟨rfl, below_setRow HB.out (by omega) _⟩
  exact res_row Tryz.results151 (cs := cc zh) rfl rfl (R22.out.rset _) Tryz.underlying37 rfl (by kernel_rfl)
/-- the four rows of Meet, while it goes over the fields -/
def MeetAt (w : World) (B : Nat) (a b c : Nat → Int) (W : World) : Prop :=
  Blk w.heap.size (cc a) 37 W ∧ Blk (w.heap.size + 1) (cc b) 37 W ∧ Blk (w.heap.size + 1 + 1) #[Value.int IntKind.u64 0, Value.int IntKind.u64 0, Value.int IntKind.u64 0, Value.int IntKind.u64 0, Value.int IntKind.u64 0, Value.int IntKind.u64 0, Value.int IntKind.u64 0, Value.int IntKind.u64 0, Value.int IntKind.u64 0, Value.int IntKind.u64 0, Value.int IntKind.u64 0, Value.int IntKind.u64 0, Value.int IntKind.u64 0, Value.int IntKind.u64 0, Value.int IntKind.u64 0, Value.int IntKind.u64 0, Value.int IntKind.u64 0, Value.int IntKind.u64 0, Value.int IntKind.u64 0, Value.int IntKind.u64 0, Value.int IntKind.u64 0, Value.int IntKind.u64 0, Value.int IntKind.u64 0, Value.int IntKind.u64 0] 37 W ∧ Blk B (cc c) 37 W ∧ Below w.heap.size w W
theorem MeetAt.drewN {w : World} {B : Nat} {a b c : Nat → Int} {W : World} (h : MeetAt w B a b c W) : ∀ n, MeetAt w B a b c (W.drewN n)
  | 0 => h
  | n + 1 => ⟨(h.drewN n).1, (h.drewN n).2.1, (h.drewN n).2.2.1, (h.drewN n).2.2.2.1, (h.drewN n).2.2.2.2.drew⟩
theorem MeetAt.set {w : World} {B : Nat} {a b c : Nat → Int} {W : World} (h : MeetAt w B a b c W) (hB : w.heap.size + 1 + 1 < B) {k : Nat} (hk : k < 24) (v : Int) : MeetAt w B a b (upd c k v) (W.setCell ⟨B, k, none⟩ (.int .u64 v)) :=
  ⟨h.1.cother (by omega) _, h.2.1.cother (by omega) _, h.2.2.1.cother (by omega) _, h.2.2.2.1.cset hk v, h.2.2.2.2.setCell (by show w.heap.size ≤ B; omega) _⟩
set_option maxHeartbeats 1000000 in
theorem cmeet_loop (a b : Nat → Int) (a0 : ∀ j, 0 ≤ a j) (b0 : ∀ j, 0 ≤ b j) (w : World) (ht : Tab w) (hz : 0 < w.heap.size) (hs : csnd a = true) (hb : csnd b = true) :
    Calls Tryz.prog 151 #[.agg (cc a), .agg (cc b)] w fun e w' => e = .returned (.tuple #[.agg (cc (metV a b)), .bool (metB a b)]) ∧ Below w.heap.size w w' := by
  have HE := Lib.hid ((((Env.start ht hz).alloc (.cells (cc a) 37)).alloc (.cells (cc b) 37)).alloc (.cells #[Value.int IntKind.u64 0, Value.int IntKind.u64 0, Value.int IntKind.u64 0, Value.int IntKind.u64 0, Value.int IntKind.u64 0, Value.int IntKind.u64 0, Value.int IntKind.u64 0, Value.int IntKind.u64 0, Value.int IntKind.u64 0, Value.int IntKind.u64 0, Value.int IntKind.u64 0, Value.int IntKind.u64 0, Value.int IntKind.u64 0, Value.int IntKind.u64 0, Value.int IntKind.u64 0, Value.int IntKind.u64 0, Value.int IntKind.u64 0, Value.int IntKind.u64 0, Value.int IntKind.u64 0, Value.int IntKind.u64 0, Value.int IntKind.u64 0, Value.int IntKind.u64 0, Value.int IntKind.u64 0, Value.int IntKind.u64 0] 37))
  have R0 := Lib.hid (((Blk.new w (cc a) 37).old (.cells (cc b) 37)).old (.cells #[Value.int IntKind.u64 0, Value.int IntKind.u64 0, Value.int IntKind.u64 0, Value.int IntKind.u64 0, Value.int IntKind.u64 0, Value.int IntKind.u64 0, Value.int IntKind.u64 0, Value.int IntKind.u64 0, Value.int IntKind.u64 0, Value.int IntKind.u64 0, Value.int IntKind.u64 0, Value.int IntKind.u64 0, Value.int IntKind.u64 0, Value.int IntKind.u64 0, Value.int IntKind.u64 0, Value.int IntKind.u64 0, Value.int IntKind.u64 0, Value.int IntKind.u64 0, Value.int IntKind.u64 0, Value.int IntKind.u64 0, Value.int IntKind.u64 0, Value.int IntKind.u64 0, Value.int IntKind.u64 0, Value.int IntKind.u64 0] 37))
  have R1 := Lib.hid ((Blk.new2 w (.cells (cc a) 37) (cc b) 37).old (.cells #[Value.int IntKind.u64 0, Value.int IntKind.u64 0, Value.int IntKind.u64 0, Value.int IntKind.u64 0, Value.int IntKind.u64 0, Value.int IntKind.u64 0, Value.int IntKind.u64 0, Value.int IntKind.u64 0, Value.int IntKind.u64 0, Value.int IntKind.u64 0, Value.int IntKind.u64 0, Value.int IntKind.u64 0, Value.int IntKind.u64 0, Value.int IntKind.u64 0, Value.int IntKind.u64 0, Value.int IntKind.u64 0, Value.int IntKind.u64 0, Value.int IntKind.u64 0, Value.int IntKind.u64 0, Value.int IntKind.u64 0, Value.int IntKind.u64 0, Value.int IntKind.u64 0, Value.int IntKind.u64 0, Value.int IntKind.u64 0] 37))
  have R2 := Lib.hid (Blk.new3 w (.cells (cc a) 37) (.cells (cc b) 37) #[Value.int IntKind.u64 0, Value.int IntKind.u64 0, Value.int IntKind.u64 0, Value.int IntKind.u64 0, Value.int IntKind.u64 0, Value.int IntKind.u64 0, Value.int IntKind.u64 0, Value.int IntKind.u64 0, Value.int IntKind.u64 0, Value.int IntKind.u64 0, Value.int IntKind.u64 0, Value.int IntKind.u64 0, Value.int IntKind.u64 0, Value.int IntKind.u64 0, Value.int IntKind.u64 0, Value.int IntKind.u64 0, Value.int IntKind.u64 0, Value.int IntKind.u64 0, Value.int IntKind.u64 0, Value.int IntKind.u64 0, Value.int IntKind.u64 0, Value.int IntKind.u64 0, Value.int IntKind.u64 0, Value.int IntKind.u64 0] 37)
  have A0 := Lib.hid a0
  have B0 := Lib.hid b0
  have HY := Lib.hid (metB_yes hs hb)
  clear ht a0 b0
  go_enter Tryz.func151, Tryz.ntmps151
  go_wp2_with (refine wpList_load_row rfl 37 _ rfl w.heap.size rfl 37 (cc a) (0, 0) _ R0.out Tryz.underlying37 rfl (by kernel_rfl) ?_)
  refine (csound_any a A0.out _ HE.out.tab HE.out.lt).mono ?_
  rintro e w1 ⟨rfl, hw1⟩
  have R01 := Lib.hid (R0.out.below hw1)
  have R11 := Lib.hid (R1.out.below hw1)
  have R21 := Lib.hid (R2.out.below hw1)
  have HE1 := Lib.hid (HE.out.below hw1)
  clear hw1 HE R0 R1 R2
  go_wp2_with (refine loadRowG rfl 37 _ rfl (w.heap.size + 1) rfl 37 (cc b) (0, 0) R11.out Tryz.underlying37 rfl (by kernel_rfl) ?_)
  refine (csound_any b B0.out _ HE1.out.tab HE1.out.lt).mono ?_
  rintro e w2 ⟨rfl, hw2⟩
  have R02 := Lib.hid (R01.out.below hw2)
  have R12 := Lib.hid (R11.out.below hw2)
  have R22 := Lib.hid (R21.out.below hw2)
  have HB := Lib.hid (HE1.out.below hw2).kept
  clear hw2 HE1 R01 R11 R21
  have hB : w.heap.size + 1 + 1 < w2.heap.size := R22.out.lt
  have R32 := Lib.hid (Blk.new w2 #[Value.int IntKind.u64 0, Value.int IntKind.u64 0, Value.int IntKind.u64 0, Value.int IntKind.u64 0, Value.int IntKind.u64 0, Value.int IntKind.u64 0, Value.int IntKind.u64 0, Value.int IntKind.u64 0, Value.int IntKind.u64 0, Value.int IntKind.u64 0, Value.int IntKind.u64 0, Value.int IntKind.u64 0, Value.int IntKind.u64 0, Value.int IntKind.u64 0, Value.int IntKind.u64 0, Value.int IntKind.u64 0, Value.int IntKind.u64 0, Value.int IntKind.u64 0, Value.int IntKind.u64 0, Value.int IntKind.u64 0, Value.int IntKind.u64 0, Value.int IntKind.u64 0, Value.int IntKind.u64 0, Value.int IntKind.u64 0] 37)
  have M := Lib.hid (show MeetAt w w2.heap.size a b zh (w2.alloc (.cells #[Value.int IntKind.u64 0, Value.int IntKind.u64 0, Value.int IntKind.u64 0, Value.int IntKind.u64 0, Value.int IntKind.u64 0, Value.int IntKind.u64 0, Value.int IntKind.u64 0, Value.int IntKind.u64 0, Value.int IntKind.u64 0, Value.int IntKind.u64 0, Value.int IntKind.u64 0, Value.int IntKind.u64 0, Value.int IntKind.u64 0, Value.int IntKind.u64 0, Value.int IntKind.u64 0, Value.int IntKind.u64 0, Value.int IntKind.u64 0, Value.int IntKind.u64 0, Value.int IntKind.u64 0, Value.int IntKind.u64 0, Value.int IntKind.u64 0, Value.int IntKind.u64 0, Value.int IntKind.u64 0, Value.int IntKind.u64 0] 37)) from ⟨R02.out.old _, R12.out.old _, R22.out.old _, R32.out, HB.out.alloc (by omega) _⟩)
  clear R02 R12 R22 R32 HB
  go_wp2
  clear hs hb
  go_loopw [17] (fun i wr => ∃ r : Nat, r ≤ 12 ∧ (∀ j, j < r → clashB a b j = false) ∧ i = .int .i64 r ∧ MeetAt w w2.heap.size a b (orTo a b r) wr) (fun i _ => (12 - intOf i).toNat)
  case atStart => exact ⟨0, by omega, fun j h => absurd h (by omega), rfl, by rw [orTo_zero]; exact M.out⟩
  case round =>
    clear M
    obtain ⟨r, hr, hq, rfl, hm⟩ := hrel
    have HQ := Lib.hid hq
    have HM := Lib.hid hm
    clear hq hm
    by_cases hlt : r < 12
    · have k1 := cellC HM.out.1 (show 12 + r < 24 by omega)
      have k2 := cellC HM.out.1 (show r < 24 by omega)
      have k3 := cellC HM.out.2.1 (show 12 + r < 24 by omega)
      have k4 := cellC HM.out.2.1 (show r < 24 by omega)
      cases ho : clashB a b r
      · have ho' : (bits .and .u64 (bits .and .u64 (bits .xor .u64 (a r) (b r)) (a (12 + r))) (b (12 + r)) != 0) = false := ho
        have HO := Lib.hid ho
        clear ho
        go_wp2
        go_quiet (fail)
        go_wp2
        clear k1 k2 k3 k4 ho'
        refine regionTail 12 (by kernel_rfl) (by kernel_rfl) (fun W hW => ?_)
        have HM1 := Lib.hid (show MeetAt w w2.heap.size a b (orTo a b r) W by rw [hW.out]; exact (HM.out.drewN _).drewN 1)
        clear hW HM
        have k1 := cellC HM1.out.1 (show 12 + r < 24 by omega)
        have k3 := cellC HM1.out.2.1 (show 12 + r < 24 by omega)
        have k5 := cellC HM1.out.2.2.2.1 (show 12 + r < 24 by omega)
        have f5 := frozen_of_row _ w2.heap.size (12 + r) _ _ HM1.out.2.2.2.1
        simp only [List.take_succ_cons, List.take_zero, List.drop_succ_cons, List.drop_zero]
        repeat still_step
        refine wpStill_nil ?_
        go_wp2
        clear k1 k3 k5 f5
        have HM2 := Lib.hid (HM1.out.set hB (show 12 + r < 24 by omega) (orC a b (12 + r)))
        clear HM1
        refine regionTail 12 (by kernel_rfl) (by kernel_rfl) (fun V hV => ?_)
        have HM3 := Lib.hid (show MeetAt w w2.heap.size a b (upd (orTo a b r) (12 + r) (orC a b (12 + r))) V by rw [hV.out]; exact HM2.out.drewN 1)
        clear hV HM2
        have k1 := cellC HM3.out.1 (show r < 24 by omega)
        have k3 := cellC HM3.out.2.1 (show r < 24 by omega)
        have k5 := cellC HM3.out.2.2.2.1 (show r < 24 by omega)
        have f5 := frozen_of_row _ w2.heap.size r _ _ HM3.out.2.2.2.1
        simp only [List.take_succ_cons, List.take_zero, List.drop_succ_cons, List.drop_zero]
        repeat still_step
        refine wpStill_nil ?_
        go_wp2
        clear k1 k3 k5 f5
        have HM4 := Lib.hid (HM3.out.set hB (show r < 24 by omega) (orC a b r))
        rw [orTo_succ a b r hlt] at HM4
        clear HM3
        go_roundw
        case rel =>
          refine ⟨r + 1, by omega, fun j hj => ?_, by go_num, HM4.out⟩
          by_cases e : j = r
          · rw [e]; exact HO.out
          · exact HQ.out j (by omega)
        case measure => simp [intOf]; omega
      · have ho' : (bits .and .u64 (bits .and .u64 (bits .xor .u64 (a r) (b r)) (a (12 + r))) (b (12 + r)) != 0) = true := ho
        have HO := Lib.hid (metB_clash hlt ho)
        clear ho
        go_wp2
        go_quiet (fail)
        go_wp2_with (refine wpList_store_row rfl 37 _ _ rfl (w.heap.size + 1 + 1) #[Value.int IntKind.u64 0, Value.int IntKind.u64 0, Value.int IntKind.u64 0, Value.int IntKind.u64 0, Value.int IntKind.u64 0, Value.int IntKind.u64 0, Value.int IntKind.u64 0, Value.int IntKind.u64 0, Value.int IntKind.u64 0, Value.int IntKind.u64 0, Value.int IntKind.u64 0, Value.int IntKind.u64 0, Value.int IntKind.u64 0, Value.int IntKind.u64 0, Value.int IntKind.u64 0, Value.int IntKind.u64 0, Value.int IntKind.u64 0, Value.int IntKind.u64 0, Value.int IntKind.u64 0, Value.int IntKind.u64 0, Value.int IntKind.u64 0, Value.int IntKind.u64 0, Value.int IntKind.u64 0, Value.int IntKind.u64 0] rfl rfl 37 _ (HM.out.drewN _).2.2.1 (by kernel_rfl) rfl (by kernel_rfl) ?_)
        refine bodyPost_ret (v := .tuple #[.agg (cc zh), .bool false]) ?_ rfl ⟨by rw [metV, HO.out]; rfl, below_setRow (HM.out.drewN _).2.2.2.2 (by omega) _⟩
        exact res_row Tryz.results151 (cs := cc zh) rfl rfl ((HM.out.drewN _).2.2.1.rset _) Tryz.underlying37 rfl (by kernel_rfl)
    · obtain rfl : r = 12 := by omega
      have HO := Lib.hid (HY.out fun j hj => HQ.out j hj)
      go_wp2_with (first
        | (refine wpList_load_row rfl 37 _ rfl w2.heap.size rfl 37 (cc (orTo a b 12)) (0, 0) _ HM.out.2.2.2.1 Tryz.underlying37 rfl (by kernel_rfl) ?_)
        | (refine wpList_store_row rfl 37 _ _ rfl (w.heap.size + 1 + 1) (cc (orTo a b 12)) rfl rfl 37 _ HM.out.2.2.1 (by kernel_rfl) rfl (cc_one _) ?_))
      refine bodyPost_ret (v := .tuple #[.agg (cc (orTo a b 12)), .bool true]) ?_ rfl ⟨by rw [metV, HO.out, orTo_all]; rfl, below_setRow HM.out.2.2.2.2 (by omega) _⟩
      exact res_row Tryz.results151 rfl rfl (HM.out.2.2.1.rset _) Tryz.underlying37 rfl (by kernel_rfl)
theorem cmeet_any (a b : Nat → Int) (a0 : ∀ j, 0 ≤ a j) (b0 : ∀ j, 0 ≤ b j) (w : World) (ht : Tab w) (hz : 0 < w.heap.size) :
    Calls Tryz.prog 151 #[.agg (cc a), .agg (cc b)] w fun e w' => e = .returned (.tuple #[.agg (cc (metV a b)), .bool (metB a b)]) ∧ Below w.heap.size w w' := by
  cases hs : csnd a
  · rw [metV, metB_l hs]; exact cmeet_l a b a0 w ht hz hs
  · cases hv : csnd b
    · rw [metV, metB_r hv]; exact cmeet_r a b a0 b0 w ht hz hs hv
    · exact cmeet_loop a b a0 b0 w ht hz hs hv
end Go.Proofs.YtomnpfbebimpkaaGreatDoor

/-
  '==' on cubes; the walks of the program's All, Within, Compare.
-/
namespace Go.Proofs.YtomnpfbebimpkaaGreatDoor
set_option maxRecDepth 20000
open Go.RowKit

theorem ret_int {k : IntKind} {a b : Int} (h : a = b) : Ending.returned (.int k a) = .returned (.int k b) := by rw [h]
theorem partVal (a : Nat → Int) (w : World) : (part 35 (cc a) 0).run Tryz.prog w = .ok (.agg (hl a).toArray) w := by kernel_rfl
theorem partCare (a : Nat → Int) (w : World) : (part 35 (cc a) 12).run Tryz.prog w = .ok (.agg (hl (care a)).toArray) w := by kernel_rfl
/-- are two cubes the same? -/
def cEq (a b : Nat → Int) : Bool := hEq a b && hEq (care a) (care b)
set_option maxRecDepth 100000 in
theorem cubeFields : ∃ f g : Field, (Tryz.prog.fieldsOf 37).toList = [f, g] ∧ f.name ≠ "_" ∧ f.type = 35 ∧ f.offset = 0 ∧ g.name ≠ "_" ∧ g.type = 35 ∧ g.offset = 12 :=
  ⟨_, _, rfl, by decide, rfl, rfl, by decide, rfl, rfl⟩
theorem eqlHl (d : Nat) (a b : Nat → Int) (w : World) : (Op.equalIn (d + 2) 35 (.agg (hl a).toArray) (.agg (hl b).toArray)).run Tryz.prog w = .ok (hEq a b) w := by
  obtain ⟨i, hi⟩ := infoU64
  show (Op.equalIn (d + 2) 35 (.agg (hc a)) (.agg (hc b))).run Tryz.prog w = .ok (hEq a b) w
  rw [run_equalIn_array w (d + 1) (hc a) (hc b) Tryz.underlying35 hi, cU64]
  exact eqItems_head a b d w (List.range 12) fun i hi => by simpa using hi
theorem eql_cube (a b : Nat → Int) (w : World) : (Op.equalIn 10000 37 (.agg (cc a)) (.agg (cc b))).run Tryz.prog w = .ok (cEq a b) w := by
  obtain ⟨f, g, hf, f1, f2, f3, g1, g2, g3⟩ := cubeFields
  rw [run_equalIn_struct w 9999 37 (cc a) (cc b) (by kernel_rfl) (by kernel_rfl), hf]
  simp only [Op.eqFields, f1, f2, f3, g1, g2, g3, ne_eq, not_false_eq_true, if_true, Sem.run_bind, partVal, Result.andThen_ok, eqlHl 9997]
  unfold cEq
  cases h : hEq a b
  · simp
  · cases h' : hEq (care a) (care b) <;> simp [h', partCare, eqlHl 9997]
theorem guardCube : Tryz.prog.eqGuardType Tryz.prog.depth 37 = false := by kernel_rfl
theorem hEq_iff (a b : Nat → Int) : hEq a b = true ↔ ∀ j, j < 12 → a j = b j := by simp [hEq]
theorem cEq_iff (a b : Nat → Int) : cEq a b = true ↔ ∀ j, j < 24 → a j = b j := by
  unfold cEq
  rw [Bool.and_eq_true, hEq_iff, hEq_iff]
  constructor
  · rintro ⟨h1, h2⟩ j hj
    by_cases h : j < 12
    · exact h1 j h
    · have := h2 (j - 12) (by omega)
      unfold care at this
      rwa [show 12 + (j - 12) = j by omega] at this
  · intro h
    exact ⟨fun j hj => h j (by omega), fun j hj => h (12 + j) (by omega)⟩
theorem cEq_cc {a b : Nat → Int} (h : cEq a b = true) : cc a = cc b := cc_ext (cc_size _) fun j hj => by rw [cc_at _ j hj, (cEq_iff a b).1 h j hj]

/-- a result in memory, alone -/
theorem res_one {fn : Func} {p : Tmp} {ty : TypeId} (h : fn.results = #[.cell p ty]) {tmps : Array Value} {P : Program} {w : World} {g : Nat} {t : TypeId} {cs : Array Value} {d : TypeDesc}
    (hp : tmps.getD p undef = .pointer (some ⟨g, 0, none⟩)) (hg : Blk g cs t w)
    (hu : P.underlying ty = some d) (hd : d.isRow = true) (hi : (P.info? ty).map (·.size) = some cs.size) :
    (results fn tmps).run P w = .ok (.agg cs) w := by
  have e := run_loadVar_row (P := P) w g t ty cs (0, 0) d hg hu (by cases d <;> first | rfl | (simp [TypeDesc.isRow] at hd)) hi
  simp only [results, h]
  rw [Array.getD_eq_getD_getElem?] at hp
  simp [hp, asAddr, e]
set_option maxHeartbeats 400000 in
theorem cwithin_of (a b m : Nat → Int) (y : Bool) (w : World) (hm : ∀ W, Tab W → 0 < W.heap.size → Calls Tryz.prog 151 #[.agg (cc a), .agg (cc b)] W fun e w' => e = .returned (.tuple #[.agg (cc m), .bool y]) ∧ Below W.heap.size W w') (ht : Tab w) (hz : 0 < w.heap.size) :
    Calls Tryz.prog 143 #[.agg (cc a), .agg (cc b)] w fun e w' => e = .returned (.bool (y && cEq m a)) ∧ Below w.heap.size w w' := by
  have HE := Lib.hid (((Env.start ht hz).alloc (.cells (cc a) 37)).alloc (.cells (cc b) 37))
  have R0 := Lib.hid ((Blk.new w (cc a) 37).old (.cells (cc b) 37))
  have R1 := Lib.hid (Blk.new2 w (.cells (cc a) 37) (cc b) 37)
  have HM := Lib.hid hm
  clear ht hm
  go_enter Tryz.func143, Tryz.ntmps143
  go_wp2_with (first
    | (refine wpList_load_row rfl 37 _ rfl w.heap.size rfl 37 (cc a) (0, 0) _ R0.out Tryz.underlying37 rfl (by kernel_rfl) ?_)
    | (refine wpList_load_row rfl 37 _ rfl (w.heap.size + 1) rfl 37 (cc b) (0, 0) _ R1.out Tryz.underlying37 rfl (by kernel_rfl) ?_))
  refine (HM.out _ HE.out.tab HE.out.lt).mono ?_
  rintro e w1 ⟨rfl, hw1⟩
  have R01 := Lib.hid ((R0.out.below hw1).old (.cells (cc m) 37))
  have R21 := Lib.hid (Blk.new w1 (cc m) 37)
  have HB := Lib.hid ((HE.out.below hw1).alloc (.cells (cc m) 37)).kept
  clear hw1 HE R0 R1 HM
  have hgd := guardCube
  have heq : ∀ w, (Op.equalIn 10000 37 (.agg (cc m)) (.agg (cc a))).run Tryz.prog w = .ok (cEq m a) w := fun w => eql_cube m a w
  cases y
  · go_wp2_with (refine wpList_store_row rfl 37 _ _ rfl w1.heap.size (cc m) rfl rfl 37 _ (heap_alloc_new _ _) (by kernel_rfl) rfl (cc_one _) ?_; rw [World.setRow_alloc_new])
    go_ret
    exact ⟨rfl, HB.out⟩
  · go_wp2_with (first
      | (refine wpList_store_row rfl 37 _ _ rfl w1.heap.size (cc m) rfl rfl 37 _ (heap_alloc_new _ _) (by kernel_rfl) rfl (cc_one _) ?_; rw [World.setRow_alloc_new])
      | (refine loadRowG rfl 37 _ rfl w1.heap.size rfl 37 (cc m) (0, 0) R21.out Tryz.underlying37 rfl (by kernel_rfl) ?_)
      | (refine loadRowG rfl 37 _ rfl w.heap.size rfl 37 (cc a) (0, 0) R01.out Tryz.underlying37 rfl (by kernel_rfl) ?_))
    go_ret
    exact ⟨by simp, HB.out⟩
/-- is a cube within another? -/
def inB (a b : Nat → Int) : Bool := metB a b && cEq (metV a b) a
theorem cwithin_any (a b : Nat → Int) (a0 : ∀ j, 0 ≤ a j) (b0 : ∀ j, 0 ≤ b j) (w : World) (ht : Tab w) (hz : 0 < w.heap.size) :
    Calls Tryz.prog 143 #[.agg (cc a), .agg (cc b)] w fun e w' => e = .returned (.bool (inB a b)) ∧ Below w.heap.size w w' :=
  cwithin_of a b _ _ w (fun W t z => cmeet_any a b a0 b0 W t z) ht hz
/-- the order of cubes -/
def cOrd (a b : Nat → Int) : Int := if hOrd (care a) (care b) != 0 then hOrd (care a) (care b) else hOrd a b
set_option maxHeartbeats 400000 in
theorem ccmp_any (a b : Nat → Int) (w : World) : Calls Tryz.prog 157 #[.agg (cc a), .agg (cc b)] w fun e w' => e = .returned (.int .i64 (cOrd a b)) ∧ Below w.heap.size w w' := by
  have R0 := Lib.hid ((Blk.new w (cc a) 37).old (.cells (cc b) 37))
  have R1 := Lib.hid (Blk.new2 w (.cells (cc a) 37) (cc b) 37)
  have HC := Lib.hid (show (hOrd (care a) (care b) != 0) = true → cOrd a b = hOrd (care a) (care b) from fun h => by simp only [cOrd, h, if_true])
  have HD := Lib.hid (show (hOrd (care a) (care b) != 0) = false → cOrd a b = hOrd a b from fun h => by simp only [cOrd, h]; rfl)
  generalize cOrd a b = o at *
  go_enter Tryz.func157, Tryz.ntmps157
  go_wp2_with (first
    | (refine wpList_load_mid rfl 35 _ rfl w.heap.size 12 rfl (hl (care a)) _ (careR R0.out) Tryz.underlying35 rfl infoHead ?_)
    | (refine wpList_load_mid rfl 35 _ rfl (w.heap.size + 1) 12 rfl (hl (care b)) _ (careR R1.out) Tryz.underlying35 rfl infoHead ?_))
  refine (cmp_any (care a) (care b) _).mono ?_
  rintro e w1 ⟨rfl, hw1⟩
  have R01 := Lib.hid (R0.out.below hw1)
  have R11 := Lib.hid (R1.out.below hw1)
  have HB := Lib.hid ((below2 _ _ _).trans (hw1.mono (by simp; omega)))
  clear hw1 R0 R1
  cases hc : (hOrd (care a) (care b) != 0)
  · have HE := Lib.hid (HD.out hc)
    go_wp2_with (first
      | (refine wpList_load_mid rfl 35 _ rfl w.heap.size 0 rfl (hl a) _ (valR R01.out) Tryz.underlying35 rfl infoHead ?_)
      | (refine wpList_load_mid rfl 35 _ rfl (w.heap.size + 1) 0 rfl (hl b) _ (valR R11.out) Tryz.underlying35 rfl infoHead ?_))
    refine (cmp_any a b _).mono ?_
    rintro e w2 ⟨rfl, hw2⟩
    go_wp2
    go_ret
    exact ⟨ret_int HE.out.symm, HB.out.trans (hw2.mono HB.out.size)⟩
  · have HE := Lib.hid (HC.out hc)
    go_wp2
    go_ret
    exact ⟨ret_int HE.out.symm, HB.out⟩
end Go.Proofs.YtomnpfbebimpkaaGreatDoor

/-
  The walk of the program's With, and of the law's answers.
-/
namespace Go.Proofs.YtomnpfbebimpkaaGreatDoor
set_option maxRecDepth 20000
open Go.RowKit

/-- what With answers: the error, the cube -/
def withE (c : Nat → Int) (n v b : Int) : Int := if csnd c then (if setE n v = 0 then (if b < 0 ∨ sz n.toNat < b then 13 else 0) else setE n v) else 2
def fixed (c : Nat → Int) (k : Nat) (v : Int) (b : Nat) : Nat → Int := upd (upd c (12 + k) (mkv (sz k).toNat b)) k (bits .and .u64 v (mkv (sz k).toNat b))
def withV (c : Nat → Int) (n v b : Int) : Nat → Int := if withE c n v b = 0 then fixed c n.toNat v b.toNat else zh

end Go.Proofs.YtomnpfbebimpkaaGreatDoor

/-
  The walk of the law's answers.
-/
namespace Go.Proofs.YtomnpfbebimpkaaGreatDoor
set_option maxRecDepth 20000
open Go.RowKit

def ansC : Nat → Int := fixed zh 6 167772160 8
theorem ansE : withE zh 6 167772160 8 = 0 := by decide +kernel
theorem ansV : withV zh 6 167772160 8 = ansC := by unfold withV; rw [ansE]; rfl
theorem ansYes : hasB ansC (upd zh 6 167838211) = true := by decide +kernel
theorem ansNo : hasB ansC zh = false := by decide +kernel
theorem ans_nonneg : ∀ j, 0 ≤ ansC j := fun j => by
  unfold ansC fixed upd
  split
  · decide +kernel
  · split
    · decide +kernel
    · exact Int.le_refl 0
theorem ansH_nonneg : ∀ j, 0 ≤ upd zh 6 167838211 j := fun j => by
  unfold upd
  split
  · decide
  · exact Int.le_refl 0
end Go.Proofs.YtomnpfbebimpkaaGreatDoor

/-
  Cubes bit by bit: what Sound, Meet, Within mean, and the laws of Meet.
-/
namespace Go.Proofs.YtomnpfbebimpkaaGreatDoor
set_option maxRecDepth 20000
open Go.RowKit

/-- the numbers of a header or cube are uint64s -/
def Wf (a : Nat → Int) : Prop := ∀ j, 0 ≤ a j ∧ a j < 18446744073709551616
theorem Wf.nonneg {a : Nat → Int} (h : Wf a) : ∀ j, 0 ≤ a j := fun j => (h j).1
theorem Wf.care {a : Nat → Int} (h : Wf a) : Wf (care a) := fun j => h (12 + j)
theorem Wf.nat {a : Nat → Int} (h : Wf a) (j : Nat) : (a j).toNat < 18446744073709551616 := by have := h j; omega
theorem zh_wf : Wf zh := fun _ => ⟨by unfold zh; decide, by unfold zh; decide⟩
/-- a bit of a number -/
def bitAt (a : Nat → Int) (j i : Nat) : Bool := (a j).toNat.testBit i

theorem nat_eq_zero_iff (n : Nat) : n = 0 ↔ ∀ i, n.testBit i = false :=
  ⟨fun h i => by rw [h]; exact Nat.zero_testBit i, fun h => Nat.eq_of_testBit_eq fun i => by rw [h i, Nat.zero_testBit]⟩
theorem int_ne_zero (n : Nat) : (((n : Nat) : Int) != 0) = false ↔ n = 0 := by
  rw [bne_eq_false_iff_eq]; omega
theorem testBit_high {n i : Nat} (h : n < 18446744073709551616) (hi : 64 ≤ i) : n.testBit i = false :=
  Nat.testBit_lt_two_pow (Nat.lt_of_lt_of_le h (Nat.le_trans (by decide) (Nat.pow_le_pow_right (by decide) hi)))
theorem testBit_comp {y i : Nat} (h : y < 18446744073709551616) : (18446744073709551615 - y).testBit i = (decide (i < 64) && !y.testBit i) := by
  have := Nat.testBit_two_pow_sub_succ (x := y) (n := 64) (by simpa using h) i
  rw [← this, show 18446744073709551615 - y = 2 ^ 64 - (y + 1) by omega]
theorem over_iff {a : Nat → Int} (h : Wf a) (j : Nat) : overB a j = false ↔ ∀ i, bitAt a j i = true → bitAt a (12 + j) i = true := by
  unfold overB bitAt
  rw [u64_andNot _ _ (h j).1 (h j).2 (h (12 + j)).1 (h (12 + j)).2, int_ne_zero, nat_eq_zero_iff]
  refine forall_congr' fun i => ?_
  rw [Nat.testBit_and, testBit_comp (h.nat (12 + j))]
  by_cases hi : i < 64
  · cases (a j).toNat.testBit i <;> cases (a (12 + j)).toNat.testBit i <;> simp [hi]
  · rw [testBit_high (h.nat j) (by omega)]; simp
theorem and_wf {x y : Int} (hx : 0 ≤ x ∧ x < 18446744073709551616) (hy : 0 ≤ y ∧ y < 18446744073709551616) : 0 ≤ bits .and .u64 x y ∧ bits .and .u64 x y < 18446744073709551616 := by
  rw [u64_and _ _ hx.1 hx.2 hy.1 hy.2]
  have := Nat.and_lt_two_pow (n := 64) x.toNat (y := y.toNat) (by omega)
  omega
theorem or_wf {x y : Int} (hx : 0 ≤ x ∧ x < 18446744073709551616) (hy : 0 ≤ y ∧ y < 18446744073709551616) : 0 ≤ bits .or .u64 x y ∧ bits .or .u64 x y < 18446744073709551616 := by
  rw [u64_or _ _ hx.1 hx.2 hy.1 hy.2]
  have := Nat.or_lt_two_pow (n := 64) (x := x.toNat) (y := y.toNat) (by omega) (by omega)
  omega
theorem xor_wf {x y : Int} (hx : 0 ≤ x ∧ x < 18446744073709551616) (hy : 0 ≤ y ∧ y < 18446744073709551616) : 0 ≤ bits .xor .u64 x y ∧ bits .xor .u64 x y < 18446744073709551616 := by
  rw [u64_xor _ _ hx.1 hx.2 hy.1 hy.2]
  have := Nat.xor_lt_two_pow (n := 64) (x := x.toNat) (y := y.toNat) (by omega) (by omega)
  omega
theorem andNot_wf {x y : Int} (hx : 0 ≤ x ∧ x < 18446744073709551616) (hy : 0 ≤ y ∧ y < 18446744073709551616) : 0 ≤ bits .andNot .u64 x y ∧ bits .andNot .u64 x y < 18446744073709551616 := by
  rw [u64_andNot _ _ hx.1 hx.2 hy.1 hy.2]
  have := Nat.and_lt_two_pow (n := 64) x.toNat (y := 18446744073709551615 - y.toNat) (by omega)
  omega
theorem bit_and {x y : Int} (hx : 0 ≤ x ∧ x < 18446744073709551616) (hy : 0 ≤ y ∧ y < 18446744073709551616) (i : Nat) : (bits .and .u64 x y).toNat.testBit i = (x.toNat.testBit i && y.toNat.testBit i) := by
  rw [u64_and _ _ hx.1 hx.2 hy.1 hy.2, Int.toNat_natCast, Nat.testBit_and]
theorem bit_or {x y : Int} (hx : 0 ≤ x ∧ x < 18446744073709551616) (hy : 0 ≤ y ∧ y < 18446744073709551616) (i : Nat) : (bits .or .u64 x y).toNat.testBit i = (x.toNat.testBit i || y.toNat.testBit i) := by
  rw [u64_or _ _ hx.1 hx.2 hy.1 hy.2, Int.toNat_natCast, Nat.testBit_or]
theorem bit_xor {x y : Int} (hx : 0 ≤ x ∧ x < 18446744073709551616) (hy : 0 ≤ y ∧ y < 18446744073709551616) (i : Nat) : (bits .xor .u64 x y).toNat.testBit i = (x.toNat.testBit i != y.toNat.testBit i) := by
  rw [u64_xor _ _ hx.1 hx.2 hy.1 hy.2, Int.toNat_natCast, Nat.testBit_xor]
theorem bit_andNot {x y : Int} (hx : 0 ≤ x ∧ x < 18446744073709551616) (hy : 0 ≤ y ∧ y < 18446744073709551616) (i : Nat) : (bits .andNot .u64 x y).toNat.testBit i = (x.toNat.testBit i && !y.toNat.testBit i) := by
  rw [u64_andNot _ _ hx.1 hx.2 hy.1 hy.2, Int.toNat_natCast, Nat.testBit_and, testBit_comp (by omega)]
  by_cases hi : i < 64
  · simp [hi]
  · rw [testBit_high (n := x.toNat) (by omega) (by omega)]; simp
/-- two numbers of 64 bits are the same if their bits are -/
theorem int_ext {x y : Int} (hx : 0 ≤ x) (hy : 0 ≤ y) (h : ∀ i, x.toNat.testBit i = y.toNat.testBit i) : x = y := by
  have := Nat.eq_of_testBit_eq h
  omega
theorem ne_zero_iff {x : Int} (hx : 0 ≤ x) : (x != 0) = false ↔ ∀ i, x.toNat.testBit i = false := by
  rw [bne_eq_false_iff_eq, ← nat_eq_zero_iff]; omega
theorem clash_iff {a b : Nat → Int} (ha : Wf a) (hb : Wf b) (j : Nat) : clashB a b j = false ↔ ∀ i, bitAt a (12 + j) i = true → bitAt b (12 + j) i = true → bitAt a j i = bitAt b j i := by
  have h1 := xor_wf (ha j) (hb j)
  have h2 := and_wf h1 (ha (12 + j))
  have h3 := and_wf h2 (hb (12 + j))
  unfold clashB
  rw [ne_zero_iff h3.1]
  refine forall_congr' fun i => ?_
  rw [bit_and h2 (hb (12 + j)), bit_and h1 (ha (12 + j)), bit_xor (ha j) (hb j)]
  unfold bitAt
  cases (a j).toNat.testBit i <;> cases (b j).toNat.testBit i <;> cases (a (12 + j)).toNat.testBit i <;> cases (b (12 + j)).toNat.testBit i <;> simp
theorem off_iff {c h : Nat → Int} (hc : Wf c) (hh : Wf h) (j : Nat) : offB c h j = false ↔ ∀ i, (bitAt h j i && bitAt c (12 + j) i) = bitAt c j i := by
  have h1 := and_wf (hh j) (hc (12 + j))
  unfold offB
  rw [bne_eq_false_iff_eq]
  unfold bitAt
  constructor
  · intro e i; rw [← bit_and (hh j) (hc (12 + j)), e]
  · intro e; exact int_ext h1.1 (hc j).1 fun i => by rw [bit_and (hh j) (hc (12 + j)), e i]
theorem fit_nat (k : Nat) (v : Int) (h0 : 0 ≤ v) : fitB k v = true ↔ v.toNat < 2 ^ (sz k).toNat := by
  unfold fitB
  rw [decide_eq_true_eq]
  constructor
  · intro h
    have : (v.toNat : Int) < ((2 ^ (sz k).toNat : Nat) : Int) := by rw [Int.toNat_of_nonneg h0]; exact_mod_cast h
    exact_mod_cast this
  · intro h
    have : (v.toNat : Int) < ((2 ^ (sz k).toNat : Nat) : Int) := by exact_mod_cast h
    rw [Int.toNat_of_nonneg h0] at this
    exact_mod_cast this
theorem snd_iff (a : Nat → Int) : sndB a = true ↔ ∀ j, j < 12 → fitB j (a j) = true := by simp [sndB]
theorem csnd_iff {a : Nat → Int} (h : Wf a) : csnd a = true ↔ (∀ j, j < 12 → fitB j (a (12 + j)) = true ∧ fitB j (a j) = true ∧ ∀ i, bitAt a j i = true → bitAt a (12 + j) i = true) := by
  unfold csnd
  rw [Bool.and_eq_true, Bool.and_eq_true, snd_iff, snd_iff, List.all_eq_true]
  constructor
  · rintro ⟨⟨h1, h2⟩, h3⟩ j hj
    refine ⟨h1 j hj, h2 j hj, (over_iff h j).1 ?_⟩
    have := h3 j (by simpa using hj)
    simpa using this
  · intro H
    refine ⟨⟨fun j hj => (H j hj).1, fun j hj => (H j hj).2.1⟩, fun j hj => ?_⟩
    have := (over_iff h j).2 (H j (by simpa using hj)).2.2
    simp [this]
theorem met_iff {a b : Nat → Int} (ha : Wf a) (hb : Wf b) : metB a b = true ↔ csnd a = true ∧ csnd b = true ∧ ∀ j, j < 12 → ∀ i, bitAt a (12 + j) i = true → bitAt b (12 + j) i = true → bitAt a j i = bitAt b j i := by
  unfold metB
  rw [Bool.and_eq_true, Bool.and_eq_true, List.all_eq_true, and_assoc]
  refine and_congr Iff.rfl (and_congr Iff.rfl ⟨fun h j hj => (clash_iff ha hb j).1 ?_, fun h j hj => ?_⟩)
  · have := h j (by simpa using hj); simpa using this
  · have := (clash_iff ha hb j).2 (h j (by simpa using hj)); simp [this]
theorem orC_wf {a b : Nat → Int} (ha : Wf a) (hb : Wf b) : Wf (orC a b) := fun j => or_wf (ha j) (hb j)
theorem metV_wf {a b : Nat → Int} (ha : Wf a) (hb : Wf b) : Wf (metV a b) := by
  unfold metV; split
  · exact orC_wf ha hb
  · exact zh_wf
theorem orC_bit {a b : Nat → Int} (ha : Wf a) (hb : Wf b) (j i : Nat) : bitAt (orC a b) j i = (bitAt a j i || bitAt b j i) := bit_or (ha j) (hb j) i
theorem orC_fit {a b : Nat → Int} (ha : Wf a) (hb : Wf b) {k j : Nat} (h1 : fitB k (a j) = true) (h2 : fitB k (b j) = true) : fitB k (orC a b j) = true := by
  rw [fit_nat k _ (ha j).1] at h1
  rw [fit_nat k _ (hb j).1] at h2
  rw [fit_nat k _ (orC_wf ha hb j).1]
  unfold orC
  rw [u64_or _ _ (ha j).1 (ha j).2 (hb j).1 (hb j).2, Int.toNat_natCast]
  exact Nat.or_lt_two_pow h1 h2
theorem orC_snd {a b : Nat → Int} (ha : Wf a) (hb : Wf b) (h1 : csnd a = true) (h2 : csnd b = true) : csnd (orC a b) = true := by
  rw [csnd_iff ha] at h1
  rw [csnd_iff hb] at h2
  rw [csnd_iff (orC_wf ha hb)]
  intro j hj
  obtain ⟨a1, a2, a3⟩ := h1 j hj
  obtain ⟨b1, b2, b3⟩ := h2 j hj
  refine ⟨orC_fit ha hb a1 b1, orC_fit ha hb a2 b2, fun i => ?_⟩
  rw [orC_bit ha hb, orC_bit ha hb]
  have p := a3 i
  have q := b3 i
  revert p q
  cases bitAt a j i <;> cases bitAt b j i <;> cases bitAt a (12 + j) i <;> cases bitAt b (12 + j) i <;> simp
theorem metV_yes {a b : Nat → Int} (h : metB a b = true) : metV a b = orC a b := by simp [metV, h]
theorem met_or_r {a b c : Nat → Int} (ha : Wf a) (hb : Wf b) (hc : Wf c) (h : metB a b = true) : metB (orC a b) c = true ↔ metB a c = true ∧ metB b c = true := by
  rw [met_iff (orC_wf ha hb) hc, met_iff ha hc, met_iff hb hc]
  obtain ⟨sa, sb, hab⟩ := (met_iff ha hb).1 h
  have ia := (csnd_iff ha).1 sa
  have ib := (csnd_iff hb).1 sb
  constructor
  · rintro ⟨_, sc, H⟩
    refine ⟨⟨sa, sc, fun j hj i => ?_⟩, ⟨sb, sc, fun j hj i => ?_⟩⟩ <;>
    · have p := (ia j hj).2.2 i
      have q := (ib j hj).2.2 i
      have r := hab j hj i
      have t := H j hj i
      rw [orC_bit ha hb, orC_bit ha hb] at t
      revert p q r t
      cases bitAt a j i <;> cases bitAt b j i <;> cases bitAt c j i <;> cases bitAt a (12 + j) i <;> cases bitAt b (12 + j) i <;> cases bitAt c (12 + j) i <;> simp
  · rintro ⟨⟨_, sc, H1⟩, ⟨_, _, H2⟩⟩
    refine ⟨orC_snd ha hb sa sb, sc, fun j hj i => ?_⟩
    have p := (ia j hj).2.2 i
    have q := (ib j hj).2.2 i
    have r := H1 j hj i
    have t := H2 j hj i
    rw [orC_bit ha hb, orC_bit ha hb]
    revert p q r t
    cases bitAt a j i <;> cases bitAt b j i <;> cases bitAt c j i <;> cases bitAt a (12 + j) i <;> cases bitAt b (12 + j) i <;> cases bitAt c (12 + j) i <;> simp
theorem met_comm {a b : Nat → Int} (ha : Wf a) (hb : Wf b) : metB a b = metB b a := by
  rw [Bool.eq_iff_iff, met_iff ha hb, met_iff hb ha]
  constructor
  · rintro ⟨h1, h2, h3⟩; exact ⟨h2, h1, fun j hj i p q => (h3 j hj i q p).symm⟩
  · rintro ⟨h1, h2, h3⟩; exact ⟨h2, h1, fun j hj i p q => (h3 j hj i q p).symm⟩
theorem orC_comm {a b : Nat → Int} (ha : Wf a) (hb : Wf b) : orC a b = orC b a := by
  funext j
  exact int_ext (orC_wf ha hb j).1 (orC_wf hb ha j).1 fun i => by
    have p := orC_bit ha hb j i
    have q := orC_bit hb ha j i
    unfold bitAt at p q
    rw [p, q, Bool.or_comm]
theorem metV_comm {a b : Nat → Int} (ha : Wf a) (hb : Wf b) : metV a b = metV b a := by
  unfold metV
  rw [met_comm ha hb, orC_comm ha hb]
theorem orC_assoc {a b c : Nat → Int} (ha : Wf a) (hb : Wf b) (hc : Wf c) : orC (orC a b) c = orC a (orC b c) := by
  funext j
  have e1 := orC_wf ha hb
  have e2 := orC_wf hb hc
  exact int_ext (orC_wf e1 hc j).1 (orC_wf ha e2 j).1 fun i => by
    have p := orC_bit e1 hc j i
    have q := orC_bit ha e2 j i
    rw [orC_bit ha hb] at p
    rw [orC_bit hb hc] at q
    unfold bitAt at p q
    rw [p, q, Bool.or_assoc]
theorem met_or_l {a b c : Nat → Int} (ha : Wf a) (hb : Wf b) (hc : Wf c) (h : metB b c = true) : metB a (orC b c) = true ↔ metB a b = true ∧ metB a c = true := by
  rw [met_comm ha (orC_wf hb hc), met_or_r hb hc ha h, met_comm hb ha, met_comm hc ha]
/-- what three cubes have in common does not hang on the order -/
theorem met_three {a b c : Nat → Int} (ha : Wf a) (hb : Wf b) (hc : Wf c) :
    (metB a b && metB (metV a b) c) = (metB b c && metB a (metV b c)) ∧ (metB a b = true → metB (metV a b) c = true → metV (metV a b) c = metV a (metV b c)) := by
  have key : (metB a b && metB (metV a b) c) = (metB b c && metB a (metV b c)) := by
    rw [Bool.eq_iff_iff, Bool.and_eq_true, Bool.and_eq_true]
    constructor
    · rintro ⟨h1, h2⟩
      rw [metV_yes h1, met_or_r ha hb hc h1] at h2
      refine ⟨h2.2, ?_⟩
      rw [metV_yes h2.2, met_or_l ha hb hc h2.2]
      exact ⟨h1, h2.1⟩
    · rintro ⟨h1, h2⟩
      rw [metV_yes h1, met_or_l ha hb hc h1] at h2
      refine ⟨h2.1, ?_⟩
      rw [metV_yes h2.1, met_or_r ha hb hc h2.1]
      exact ⟨h2.2, h1⟩
  refine ⟨key, fun h1 h2 => ?_⟩
  have h3 : (metB b c && metB a (metV b c)) = true := by rw [← key, h1, h2]; rfl
  rw [Bool.and_eq_true] at h3
  rw [metV_yes h2, metV_yes h3.2, metV_yes h1, metV_yes h3.1, orC_assoc ha hb hc]
theorem cEq_refl (a : Nat → Int) : cEq a a = true := (cEq_iff a a).2 fun _ _ => rfl
end Go.Proofs.YtomnpfbebimpkaaGreatDoor

/-
  The walk of the law CubeThree.
-/
namespace Go.Proofs.YtomnpfbebimpkaaGreatDoor
set_option maxRecDepth 20000
open Go.RowKit

/-- what Meet answers, at whatever world -/
def Meets (a b m : Nat → Int) (y : Bool) : Prop := ∀ W, Tab W → 0 < W.heap.size → Calls Tryz.prog 151 #[.agg (cc a), .agg (cc b)] W fun e w' => e = .returned (.tuple #[.agg (cc m), .bool y]) ∧ Below W.heap.size W w'
theorem meets_any {a b : Nat → Int} (ha : Wf a) (hb : Wf b) : Meets a b (metV a b) (metB a b) := fun W t z => cmeet_any a b ha.nonneg hb.nonneg W t z
end Go.Proofs.YtomnpfbebimpkaaGreatDoor

/-
  The walk of the law CubeOrder.
-/
namespace Go.Proofs.YtomnpfbebimpkaaGreatDoor
set_option maxRecDepth 20000
open Go.RowKit

/-- A load of a whole row, in a region walked by hand. -/
theorem execBlk {P : Program} {a : Act} {oi : Oper} {w : World} {ty : TypeId} {x : Operand} (ho : oi.op = .load ty x) (b : Nat) (hx : a.eval x = .pointer (some ⟨b, 0, none⟩)) {cs : Array Value} {t : TypeId} (hb : Blk b cs t w)
    {d : TypeDesc} (hu : P.underlying ty = some d) (hd : d.isRow = true) (hi : (P.info? ty).map (·.size) = some cs.size) : (execOp a.eval oi).run P w = .ok (.value (.agg cs)) w := by
  unfold execOp
  simp only [ho, hx, Instr.loadAt, Instr.sureAddr, Sem.run_bind, Sem.run_pure, Result.andThen_ok, run_loadVar_row w b t ty cs (0, 0) d hb hu (by cases d <;> first | rfl | (simp [TypeDesc.isRow] at hd)) hi]
/-- two cubes lie in two blocks -/
def Pair (w : World) (a b : Nat → Int) (W : World) : Prop := Blk w.heap.size (cc a) 37 W ∧ Blk (w.heap.size + 1) (cc b) 37 W ∧ Env w W
theorem Pair.below {w : World} {a b : Nat → Int} {W W' : World} (hb : Below W.heap.size W W') (h : Pair w a b W) : Pair w a b W' := ⟨h.1.below hb, h.2.1.below hb, h.2.2.below hb⟩
theorem Pair.start {w : World} (ht : Tab w) (hz : 0 < w.heap.size) (a b : Nat → Int) : Pair w a b ((w.alloc (.cells (cc a) 37)).alloc (.cells (cc b) 37)) :=
  ⟨(Blk.new w (cc a) 37).old _, Blk.new2 w _ (cc b) 37, ((Env.start ht hz).alloc _).alloc _⟩
theorem Pair.drew {w : World} {a b : Nat → Int} {W : World} (h : Pair w a b W) : Pair w a b W.drew := ⟨h.1, h.2.1, h.2.2.drew⟩
set_option maxHeartbeats 400000 in
theorem rccmp_any (a b : Nat → Int) (w : World) : Calls Tryz.prog 83 #[.agg (cc a), .agg (cc b)] w fun e w' => e = .returned (.int .i64 (cOrd a b)) ∧ Below w.heap.size w w' := by
  have R0 := Lib.hid ((Blk.new w (cc a) 37).old (.cells (cc b) 37))
  have R1 := Lib.hid (Blk.new2 w (.cells (cc a) 37) (cc b) 37)
  have HC := Lib.hid (show (hOrd (care a) (care b) != 0) = true → cOrd a b = hOrd (care a) (care b) from fun h => by simp only [cOrd, h, if_true])
  have HD := Lib.hid (show (hOrd (care a) (care b) != 0) = false → cOrd a b = hOrd a b from fun h => by simp only [cOrd, h]; rfl)
  generalize cOrd a b = o at *
  go_enter Tryz.func83, Tryz.ntmps83
  go_wp2_with (first
    | (refine wpList_load_mid rfl 35 _ rfl w.heap.size 12 rfl (hl (care a)) _ (careR R0.out) Tryz.underlying35 rfl infoHead ?_)
    | (refine wpList_load_mid rfl 35 _ rfl (w.heap.size + 1) 12 rfl (hl (care b)) _ (careR R1.out) Tryz.underlying35 rfl infoHead ?_))
  refine (rord_any (care a) (care b) _).mono ?_
  rintro e w1 ⟨rfl, hw1⟩
  have R01 := Lib.hid (R0.out.below hw1)
  have R11 := Lib.hid (R1.out.below hw1)
  have HB := Lib.hid ((below2 _ _ _).trans (hw1.mono (by simp; omega)))
  clear hw1 R0 R1
  cases hc : (hOrd (care a) (care b) != 0)
  · have HE := Lib.hid (HD.out hc)
    go_wp2_with (first
      | (refine wpList_load_mid rfl 35 _ rfl w.heap.size 0 rfl (hl a) _ (valR R01.out) Tryz.underlying35 rfl infoHead ?_)
      | (refine wpList_load_mid rfl 35 _ rfl (w.heap.size + 1) 0 rfl (hl b) _ (valR R11.out) Tryz.underlying35 rfl infoHead ?_))
    refine (rord_any a b _).mono ?_
    rintro e w2 ⟨rfl, hw2⟩
    go_wp2
    go_ret
    exact ⟨ret_int HE.out.symm, HB.out.trans (hw2.mono HB.out.size)⟩
  · have HE := Lib.hid (HC.out hc)
    go_wp2
    go_ret
    exact ⟨ret_int HE.out.symm, HB.out⟩
theorem cOrd_neg (a b : Nat → Int) : cOrd b a = -cOrd a b := by
  unfold cOrd
  have e1 := ord_neg (care a) (care b)
  have e2 := ord_neg a b
  by_cases h : hOrd (care a) (care b) = 0
  · have h' : hOrd (care b) (care a) = 0 := by omega
    simp only [h, h', bne_self_eq_false, Bool.false_eq_true, if_false]; omega
  · have h' : hOrd (care b) (care a) ≠ 0 := by omega
    rw [if_pos (by simpa using h'), if_pos (by simpa using h)]; omega
theorem cOrd_zero (a b : Nat → Int) : (cOrd a b == 0) = cEq a b := by
  unfold cOrd cEq
  rw [← ord_zero, ← ord_zero]
  by_cases h : hOrd (care a) (care b) = 0
  · simp [h]
  · rw [if_pos (by simpa using h)]; simp [h]
end Go.Proofs.YtomnpfbebimpkaaGreatDoor

/-
  Cubes that fix the highest bits of a field: their bits, and which is within which.
-/
namespace Go.Proofs.YtomnpfbebimpkaaGreatDoor
set_option maxRecDepth 20000
open Go.RowKit

theorem mkv_nat (s i : Nat) (h : i ≤ s) : mkv s i = (((2 ^ i - 1) * 2 ^ (s - i) : Nat) : Int) := by
  have h1 : 1 ≤ 2 ^ i := Nat.one_le_two_pow
  unfold mkv
  rw [Nat.min_eq_right h, Int.natCast_mul, Int.natCast_sub h1]
  push_cast
  rfl
theorem mkv_bit (s i t : Nat) (h : i ≤ s) : (mkv s i).toNat.testBit t = decide (s - i ≤ t ∧ t < s) := by
  rw [mkv_nat s i h, Int.toNat_natCast, Nat.testBit_mul_two_pow, Nat.testBit_two_pow_sub_one]
  by_cases h1 : s - i ≤ t
  · by_cases h2 : t < s
    · simp [h1, h2]; omega
    · simp [h1, h2]; omega
  · simp [h1]
theorem mkv_u64 (k i : Nat) : 0 ≤ mkv (sz k).toNat i ∧ mkv (sz k).toNat i < 18446744073709551616 := by
  have := mkv_small (sz k).toNat i (by have := sz_le k; omega)
  omega
theorem fixed_wf {c : Nat → Int} (hc : Wf c) (k : Nat) (v : Int) (hv : 0 ≤ v ∧ v < 18446744073709551616) (i : Nat) : Wf (fixed c k v i) := fun j => by
  unfold fixed upd
  split
  · exact and_wf hv (mkv_u64 k i)
  · split
    · exact mkv_u64 k i
    · exact hc j
theorem fixed_val (c : Nat → Int) (k : Nat) (v : Int) (i : Nat) : fixed c k v i k = bits .and .u64 v (mkv (sz k).toNat i) := by simp [fixed, upd]
theorem fixed_care (c : Nat → Int) (k : Nat) (v : Int) (i : Nat) : fixed c k v i (12 + k) = mkv (sz k).toNat i := by simp [fixed, upd]
theorem fixed_other (c : Nat → Int) (k : Nat) (v : Int) (i j : Nat) (h1 : j ≠ k) (h2 : j ≠ 12 + k) : fixed c k v i j = c j := by simp [fixed, upd, h1, h2]
theorem fit_mkv (k i : Nat) : fitB k (mkv (sz k).toNat i) = true := by
  unfold fitB
  have := (mkv_lt (sz k).toNat i).2
  simpa using this
theorem fit_and {k : Nat} {x y : Int} (hx : 0 ≤ x ∧ x < 18446744073709551616) (hy : 0 ≤ y ∧ y < 18446744073709551616) (h : fitB k x = true) : fitB k (bits .and .u64 x y) = true := by
  rw [fit_nat k _ hx.1] at h
  rw [fit_nat k _ (and_wf hx hy).1, u64_and _ _ hx.1 hx.2 hy.1 hy.2, Int.toNat_natCast]
  exact Nat.lt_of_le_of_lt Nat.and_le_left h
theorem fixed_snd {c : Nat → Int} (hc : Wf c) (hs : csnd c = true) (k : Nat) (hk : k < 12) (v : Int) (hv : 0 ≤ v ∧ v < 18446744073709551616) (hf : fitB k v = true) (i : Nat) : csnd (fixed c k v i) = true := by
  rw [csnd_iff hc] at hs
  rw [csnd_iff (fixed_wf hc k v hv i)]
  intro j hj
  by_cases e : j = k
  · subst e
    rw [fixed_care, fixed_val]
    refine ⟨fit_mkv j i, fit_and hv (mkv_u64 j i) hf, fun t => ?_⟩
    unfold bitAt
    rw [fixed_care, fixed_val, bit_and hv (mkv_u64 j i)]
    intro h
    exact (Bool.and_eq_true _ _ ▸ h).2
  · have o1 := fixed_other c k v i j e (by omega)
    have o2 := fixed_other c k v i (12 + j) (by omega) (by omega)
    unfold bitAt
    rw [o1, o2]
    exact hs j hj
theorem zh_snd : csnd zh = true := by decide +kernel
theorem fixed_has {h : Nat → Int} (hh : Wf h) (hs : sndB h = true) (k : Nat) (hk : k < 12) (i : Nat) : hasB (fixed zh k (h k) i) h = true := by
  have hf := (snd_iff h).1 hs k hk
  refine hasB_yes (fixed_snd zh_wf zh_snd k hk (h k) (hh k) hf i) hs fun j hj => ?_
  rw [off_iff (fixed_wf zh_wf k (h k) (hh k) i) hh]
  intro t
  unfold bitAt
  by_cases e : j = k
  · subst e
    rw [fixed_care, fixed_val, bit_and (hh j) (mkv_u64 j i)]
  · rw [fixed_other zh k (h k) i j e (by omega), fixed_other zh k (h k) i (12 + j) (by omega) (by omega)]
    simp [zh]
theorem fixed_in {v : Int} (k : Nat) (hk : k < 12) (hv : 0 ≤ v ∧ v < 18446744073709551616) (hf : fitB k v = true) (i j : Nat) (hi : (i : Int) ≤ sz k) (hj : (j : Int) ≤ sz k) : (inB (fixed zh k v i) (fixed zh k v j) == decide (j ≤ i)) = true := by
  have wi := fixed_wf zh_wf k v hv i
  have wj := fixed_wf zh_wf k v hv j
  have hm : metB (fixed zh k v i) (fixed zh k v j) = true := by
    rw [met_iff wi wj]
    refine ⟨fixed_snd zh_wf zh_snd k hk v hv hf i, fixed_snd zh_wf zh_snd k hk v hv hf j, fun q hq t => ?_⟩
    unfold bitAt
    by_cases e : q = k
    · subst e
      rw [fixed_care, fixed_care, fixed_val, fixed_val, bit_and hv (mkv_u64 q i), bit_and hv (mkv_u64 q j)]
      intro p r
      rw [p, r]
    · intro _ _
      rw [fixed_other zh k v i q e (by omega), fixed_other zh k v j q e (by omega)]
  unfold inB
  rw [hm, metV_yes hm, Bool.true_and, beq_iff_eq]
  by_cases hji : j ≤ i
  · rw [decide_eq_true hji, cEq_iff]
    intro q hq
    refine int_ext (orC_wf wi wj q).1 (wi q).1 fun t => ?_
    have := orC_bit wi wj q t
    unfold bitAt at this
    rw [this]
    have key : ((mkv (sz k).toNat i).toNat.testBit t || (mkv (sz k).toNat j).toNat.testBit t) = (mkv (sz k).toNat i).toNat.testBit t := by
      rw [mkv_bit _ i t (by omega), mkv_bit _ j t (by omega)]
      by_cases h1 : (sz k).toNat - i ≤ t ∧ t < (sz k).toNat
      · simp [h1]
      · have h2 : ¬ ((sz k).toNat - j ≤ t ∧ t < (sz k).toNat) := by omega
        rw [decide_eq_false h1, decide_eq_false h2]; rfl
    by_cases e1 : q = k
    · subst e1
      rw [fixed_val, fixed_val, bit_and hv (mkv_u64 q i), bit_and hv (mkv_u64 q j), ← Bool.and_or_distrib_left, key]
    · by_cases e2 : q = 12 + k
      · subst e2
        rw [fixed_care, fixed_care, key]
      · rw [fixed_other zh k v i q e1 e2, fixed_other zh k v j q e1 e2, Bool.or_self]
  · rw [decide_eq_false hji]
    cases hc : cEq (orC (fixed zh k v i) (fixed zh k v j)) (fixed zh k v i)
    · rfl
    · exfalso
      have e := (cEq_iff _ _).1 hc (12 + k) (by omega)
      have b := orC_bit wi wj (12 + k) ((sz k).toNat - j)
      unfold bitAt at b
      rw [e, fixed_care, fixed_care, mkv_bit _ i _ (by omega), mkv_bit _ j _ (by omega)] at b
      rw [decide_eq_false (by omega), decide_eq_true (by omega)] at b
      exact absurd b (by decide)
end Go.Proofs.YtomnpfbebimpkaaGreatDoor

/-
  The walk of math/bits.Len64.
-/
namespace Go.Proofs.YtomnpfbebimpkaaGreatDoor
set_option maxRecDepth 20000

theorem len_way (k p : Nat) (c : Int) (hc : c = k) (hp : 2 ^ k = p) (x y : Int) (hx : x.toNat < 18446744073709551616) (hk : k = 0 ∨ p ≤ x.toNat) (hk' : k ≤ 56) (y0 : 0 ≤ y) (y1 : y ≤ 255) (hy : y.toNat = x.toNat / p) :
    (c + ((Lib.len8 y + 9223372036854775808) % 18446744073709551616 - 9223372036854775808) + 9223372036854775808) % 18446744073709551616 - 9223372036854775808 = (Lib.bitLen x.toNat : Int) := by
  subst hp
  have l := Lib.bitLen_le8 ⟨y.toNat, by omega⟩
  have s : Lib.bitLen x.toNat = k + Lib.bitLen (x.toNat / 2 ^ k) := by
    rcases hk with rfl | hk
    · simp
    · exact Lib.bitLen_shift k _ hk (by simpa using hx)
  rw [Lib.len8_int y y0 y1, s, ← hy]
  simp only at l
  omega
end Go.Proofs.YtomnpfbebimpkaaGreatDoor

/-
  The highest bit of a number; what Less makes, bit by bit, as lists.
-/
namespace Go.Proofs.YtomnpfbebimpkaaGreatDoor
set_option maxRecDepth 20000
open Go.RowKit

theorem bitLen_bounds : ∀ n : Nat, n ≠ 0 → n < 2 ^ 64 → 1 ≤ Lib.bitLen n ∧ 2 ^ (Lib.bitLen n - 1) ≤ n ∧ n < 2 ^ Lib.bitLen n := by
  intro n
  induction n using Nat.strongRecOn with
  | ind n ih =>
    intro h0 h
    rw [Lib.bitLen_half n h0 h]
    by_cases h1 : n / 2 = 0
    · have e : n = 1 := by omega
      subst e
      decide
    · obtain ⟨b1, b2, b3⟩ := ih (n / 2) (by omega) h1 (by omega)
      refine ⟨by omega, ?_, ?_⟩
      · rw [show 1 + Lib.bitLen (n / 2) - 1 = (Lib.bitLen (n / 2) - 1) + 1 by omega, Nat.pow_succ]; omega
      · rw [show 1 + Lib.bitLen (n / 2) = Lib.bitLen (n / 2) + 1 by omega, Nat.pow_succ]; omega
/-- the place of the highest one -/
def hiB (n : Nat) : Nat := Lib.bitLen n - 1
theorem hiB_spec (n : Nat) (h0 : n ≠ 0) (h : n < 2 ^ 64) : Lib.bitLen n = hiB n + 1 ∧ 2 ^ hiB n ≤ n ∧ n < 2 ^ (hiB n + 1) ∧ hiB n < 64 := by
  obtain ⟨b1, b2, b3⟩ := bitLen_bounds n h0 h
  unfold hiB
  refine ⟨by omega, b2, by rwa [show Lib.bitLen n - 1 + 1 = Lib.bitLen n by omega], ?_⟩
  exact Nat.pow_lt_pow_iff_right (by decide) |>.1 (Nat.lt_of_le_of_lt b2 h)
theorem hiB_bit (n : Nat) (h0 : n ≠ 0) (h : n < 2 ^ 64) : n.testBit (hiB n) = true := by
  obtain ⟨_, b2, b3, _⟩ := hiB_spec n h0 h
  rw [Nat.testBit_eq_decide_div_mod_eq, decide_eq_true_eq]
  have : n / 2 ^ hiB n = 1 := by
    rw [Nat.pow_succ] at b3
    exact Nat.div_eq_of_lt_le (by omega) (by omega)
  rw [this]
/-- one step of Less: the cube with one bit more of the other, and the piece with that bit turned -/
def stepC (b c : Nat → Int) (i : Nat) (p : Int) : Nat → Int := upd (upd c (12 + i) (bits .or .u64 (c (12 + i)) p)) i (bits .or .u64 (c i) (bits .and .u64 (b i) p))
def pieceC (b c : Nat → Int) (i : Nat) (p : Int) : Nat → Int := upd (stepC b c i p) i (bits .xor .u64 (stepC b c i p i) p)
/-- the bits of a field, from the highest one on: the pieces, the cube behind them -/
def goBits (b : Nat → Int) (i L : Nat) : Nat → (Nat → Int) → List (Nat → Int) × (Nat → Int)
  | 0, c => ([], c)
  | n + 1, c => if L.testBit n then (pieceC b c i (2 ^ n) :: (goBits b i L n (stepC b c i (2 ^ n))).1, (goBits b i L n (stepC b c i (2 ^ n))).2) else goBits b i L n c
/-- the bits of a field that the other cube fixes and this one does not -/
def leftN (b c : Nat → Int) (i : Nat) : Nat := (bits .andNot .u64 (b (12 + i)) (c (12 + i))).toNat
/-- the last m fields -/
def goFields (b : Nat → Int) : Nat → (Nat → Int) → List (Nat → Int)
  | 0, _ => []
  | m + 1, c => (goBits b (11 - m) (leftN b c (11 - m)) 64 c).1 ++ goFields b m (goBits b (11 - m) (leftN b c (11 - m)) 64 c).2
/-- what Less answers -/
def lessL (a b : Nat → Int) : List (Nat → Int) := if csnd a && csnd b then (if metB a b then goFields b 12 a else [a]) else []
/-- with nothing between, the bits go on from the next one -/
theorem goBits_skip (b : Nat → Int) (i L : Nat) (c : Nat → Int) (t : Nat) : ∀ n, t ≤ n → (∀ k, t ≤ k → k < n → L.testBit k = false) → goBits b i L n c = goBits b i L t c
  | 0, h, _ => by rw [show t = 0 by omega]
  | n + 1, h, hz => by
    by_cases e : t = n + 1
    · rw [e]
    · rw [goBits, hz n (by omega) (by omega)]
      exact goBits_skip b i L c t n (by omega) fun k h1 h2 => hz k h1 (by omega)
/-- the rest of a number below a bit, its highest one taken away -/
theorem mod_hi (L n : Nat) (hn : n ≤ 64) (h0 : L % 2 ^ n ≠ 0) : hiB (L % 2 ^ n) < n ∧ L.testBit (hiB (L % 2 ^ n)) = true ∧ (∀ k, hiB (L % 2 ^ n) + 1 ≤ k → k < n → L.testBit k = false) ∧ L % 2 ^ n = 2 ^ hiB (L % 2 ^ n) + L % 2 ^ hiB (L % 2 ^ n) := by
  have hlt : L % 2 ^ n < 2 ^ n := Nat.mod_lt _ (Nat.two_pow_pos n)
  have h64 : L % 2 ^ n < 2 ^ 64 := Nat.lt_of_lt_of_le hlt (Nat.pow_le_pow_right (by decide) hn)
  obtain ⟨_, b2, b3, _⟩ := hiB_spec _ h0 h64
  have ht : hiB (L % 2 ^ n) < n := Nat.pow_lt_pow_iff_right (by decide) |>.1 (Nat.lt_of_le_of_lt b2 hlt)
  have hb := hiB_bit _ h0 h64
  generalize hiB (L % 2 ^ n) = t at *
  refine ⟨ht, ?_, fun k h1 h2 => ?_, ?_⟩
  · rw [Nat.testBit_mod_two_pow] at hb
    exact (Bool.and_eq_true _ _ ▸ hb).2
  · have : (L % 2 ^ n).testBit k = false := Nat.testBit_lt_two_pow (Nat.lt_of_lt_of_le b3 (Nat.pow_le_pow_right (by decide) h1))
    rw [Nat.testBit_mod_two_pow] at this
    simpa [h2] using this
  · have e : L % 2 ^ n % 2 ^ t = L % 2 ^ t := Nat.mod_mod_of_dvd _ (Nat.pow_dvd_pow 2 (by omega))
    have q : L % 2 ^ n / 2 ^ t = 1 := Nat.div_eq_of_lt_le (by omega) (by rw [Nat.pow_succ] at b3; omega)
    have := Nat.div_add_mod (L % 2 ^ n) (2 ^ t)
    rw [q, e] at this
    omega
theorem goBits_at (b : Nat → Int) (i L : Nat) (c : Nat → Int) (n : Nat) (hn : n ≤ 64) (h0 : L % 2 ^ n ≠ 0) :
    goBits b i L n c = (pieceC b c i (2 ^ hiB (L % 2 ^ n)) :: (goBits b i L (hiB (L % 2 ^ n)) (stepC b c i (2 ^ hiB (L % 2 ^ n)))).1, (goBits b i L (hiB (L % 2 ^ n)) (stepC b c i (2 ^ hiB (L % 2 ^ n)))).2) := by
  obtain ⟨h1, h2, h3, _⟩ := mod_hi L n hn h0
  rw [goBits_skip b i L c (hiB (L % 2 ^ n) + 1) n (by omega) h3, goBits, h2]
  rfl
theorem goBits_end (b : Nat → Int) (i L : Nat) (c : Nat → Int) (n : Nat) (h0 : L % 2 ^ n = 0) : goBits b i L n c = ([], c) := by
  rw [goBits_skip b i L c 0 n (by omega) fun k _ h2 => ?_]
  · rfl
  · have : (L % 2 ^ n).testBit k = false := by rw [h0]; exact Nat.zero_testBit k
    rw [Nat.testBit_mod_two_pow] at this
    simpa [h2] using this
/-- the number behind 'left &^= bit' -/
theorem andNot_hi (x t r : Nat) (hx : x < 18446744073709551616) (h : x = 2 ^ t + r) (hr : r < 2 ^ t) : bits .andNot .u64 (x : Int) (2 ^ t) = (r : Int) := by
  have ht : t < 64 := Nat.pow_lt_pow_iff_right (a := 2) (by decide) |>.1 (by omega)
  have hp : (2 : Int) ^ t = ((2 ^ t : Nat) : Int) := by push_cast; rfl
  have hp' : 2 ^ t < 18446744073709551616 := by have := Nat.pow_lt_pow_right (a := 2) (by decide) ht; omega
  rw [hp]
  have w1 : (0 : Int) ≤ (x : Int) ∧ (x : Int) < 18446744073709551616 := by omega
  have w2 : (0 : Int) ≤ ((2 ^ t : Nat) : Int) ∧ ((2 ^ t : Nat) : Int) < 18446744073709551616 := by omega
  refine int_ext (andNot_wf w1 w2).1 (by omega) fun i => ?_
  rw [bit_andNot w1 w2, Int.toNat_natCast, Int.toNat_natCast, Int.toNat_natCast, Nat.testBit_two_pow, h]
  have e : 2 ^ t + r = 2 ^ t ||| r := by have := Nat.two_pow_add_eq_or_of_lt hr 1; simpa using this
  rw [e, Nat.testBit_or, Nat.testBit_two_pow]
  by_cases hi : t = i
  · subst hi
    rw [Nat.testBit_lt_two_pow hr]; simp
  · simp [hi]
theorem pow_u64 {t : Nat} (h : t < 64) : (0 : Int) ≤ 2 ^ t ∧ (2 : Int) ^ t < 18446744073709551616 := by
  have hp : (2 : Int) ^ t = ((2 ^ t : Nat) : Int) := by push_cast; rfl
  have h1 := Nat.pow_lt_pow_right (a := 2) (by decide) h
  have h2 : (2 ^ t : Nat) < 18446744073709551616 := by simpa using h1
  rw [hp]
  generalize (2 ^ t : Nat) = m at *
  omega
theorem stepC_wf {b c : Nat → Int} (hb : Wf b) (hc : Wf c) (i : Nat) {p : Int} (hp : 0 ≤ p ∧ p < 18446744073709551616) : Wf (stepC b c i p) := fun j => by
  unfold stepC upd
  split
  · exact or_wf (hc i) (and_wf (hb i) hp)
  · split
    · exact or_wf (hc _) hp
    · exact hc j
theorem pieceC_wf {b c : Nat → Int} (hb : Wf b) (hc : Wf c) (i : Nat) {p : Int} (hp : 0 ≤ p ∧ p < 18446744073709551616) : Wf (pieceC b c i p) := fun j => by
  unfold pieceC upd
  split
  · exact xor_wf (stepC_wf hb hc i hp i) hp
  · exact stepC_wf hb hc i hp j
theorem goBits_wf {b : Nat → Int} (hb : Wf b) (i L : Nat) : ∀ n, n ≤ 64 → ∀ c, Wf c → (∀ x ∈ (goBits b i L n c).1, Wf x) ∧ Wf (goBits b i L n c).2
  | 0, _, c, hc => ⟨(fun x hx => by cases hx), hc⟩
  | n + 1, hn, c, hc => by
    have hp := pow_u64 (show n < 64 by omega)
    rw [goBits]
    split
    · obtain ⟨h1, h2⟩ := goBits_wf hb i L n (by omega) _ (stepC_wf hb hc i hp)
      exact ⟨fun x hx => by
        rcases List.mem_cons.1 hx with rfl | hx
        · exact pieceC_wf hb hc i hp
        · exact h1 x hx, h2⟩
    · exact goBits_wf hb i L n (by omega) c hc
theorem goFields_wf {b : Nat → Int} (hb : Wf b) : ∀ m c, Wf c → ∀ x ∈ goFields b m c, Wf x
  | 0, _, _ => fun x hx => by cases hx
  | m + 1, c, hc => fun x hx => by
    rw [goFields] at hx
    obtain ⟨h1, h2⟩ := goBits_wf hb (11 - m) (leftN b c (11 - m)) 64 (by omega) c hc
    rcases List.mem_append.1 hx with h | h
    · exact h1 x h
    · exact goFields_wf hb m _ h2 x h
theorem lessL_wf {a b : Nat → Int} (ha : Wf a) (hb : Wf b) : ∀ x ∈ lessL a b, Wf x := by
  unfold lessL
  split
  · split
    · exact goFields_wf hb 12 a ha
    · intro x hx
      rw [List.mem_singleton] at hx
      rw [hx]; exact ha
  · intro x hx; cases hx
theorem goBits_len (b : Nat → Int) (i L : Nat) : ∀ n c, (goBits b i L n c).1.length ≤ n
  | 0, _ => by simp [goBits]
  | n + 1, c => by
    rw [goBits]
    split
    · have := goBits_len b i L n (stepC b c i (2 ^ n))
      simp only [List.length_cons]; omega
    · have := goBits_len b i L n c
      omega
theorem goFields_len (b : Nat → Int) : ∀ m c, (goFields b m c).length ≤ m * 64
  | 0, _ => by simp [goFields]
  | m + 1, c => by
    rw [goFields, List.length_append]
    have h1 := goBits_len b (11 - m) (leftN b c (11 - m)) 64 c
    have h2 := goFields_len b m (goBits b (11 - m) (leftN b c (11 - m)) 64 c).2
    omega
theorem lessL_len (a b : Nat → Int) : (lessL a b).length ≤ 768 := by
  unfold lessL
  split
  · split
    · have := goFields_len b 12 a
      omega
    · simp
  · simp
end Go.Proofs.YtomnpfbebimpkaaGreatDoor

/-
  What Less makes: pieces of the first cube, apart from the second and from one another.
-/
namespace Go.Proofs.YtomnpfbebimpkaaGreatDoor
set_option maxRecDepth 20000
open Go.RowKit

/-- x fixes all that c fixes, alike -/
def Ext (c x : Nat → Int) : Prop := ∀ j, j < 12 → ∀ t, bitAt c (12 + j) t = true → bitAt x (12 + j) t = true ∧ bitAt x j t = bitAt c j t
theorem Ext.refl (c : Nat → Int) : Ext c c := fun _ _ _ h => ⟨h, rfl⟩
theorem Ext.trans {a b c : Nat → Int} (h1 : Ext a b) (h2 : Ext b c) : Ext a c := fun j hj t h => by
  obtain ⟨p, q⟩ := h1 j hj t h
  obtain ⟨p', q'⟩ := h2 j hj t p
  exact ⟨p', q'.trans q⟩
theorem ext_in {a x : Nat → Int} (ha : Wf a) (hx : Wf x) (sa : csnd a = true) (sx : csnd x = true) (h : Ext a x) : inB x a = true := by
  have ia := (csnd_iff ha).1 sa
  have hm : metB x a = true := (met_iff hx ha).2 ⟨sx, sa, fun j hj t _ h2 => (h j hj t h2).2⟩
  unfold inB
  rw [hm, metV_yes hm, Bool.true_and, cEq_iff]
  intro q hq
  refine int_ext (orC_wf hx ha q).1 (hx q).1 fun t => ?_
  have := orC_bit hx ha q t
  unfold bitAt at this
  rw [this]
  have key : bitAt a q t = true → bitAt x q t = true := by
    intro e
    by_cases h12 : q < 12
    · have e' := (ia q h12).2.2 t e
      rw [(h q h12 t e').2]; exact e
    · have e' := e
      rw [show q = 12 + (q - 12) by omega] at e' ⊢
      exact (h (q - 12) (by omega) t e').1
  unfold bitAt at key
  revert key
  cases (x q).toNat.testBit t <;> cases (a q).toNat.testBit t <;> simp
theorem in_ext {a b : Nat → Int} (ha : Wf a) (hb : Wf b) (h : inB a b = true) : metB a b = true ∧ ∀ j t, j < 12 → bitAt b (12 + j) t = true → bitAt a (12 + j) t = true := by
  unfold inB at h
  rw [Bool.and_eq_true] at h
  obtain ⟨hm, hc⟩ := h
  refine ⟨hm, fun j t hj e => ?_⟩
  rw [metV_yes hm] at hc
  have q := (cEq_iff _ _).1 hc (12 + j) (by omega)
  have := orC_bit ha hb (12 + j) t
  unfold bitAt at this e ⊢
  rw [q, e] at this
  rw [this]; simp
/-- two cubes that fix a bit otherwise have nothing in common -/
theorem met_no {x y : Nat → Int} (hx : Wf x) (hy : Wf y) {j t : Nat} (hj : j < 12) (h1 : bitAt x (12 + j) t = true) (h2 : bitAt y (12 + j) t = true) (h : bitAt x j t ≠ bitAt y j t) : metB x y = false := by
  cases hm : metB x y
  · rfl
  · exact absurd (((met_iff hx hy).1 hm).2.2 j hj t h1 h2) h
section
variable {b c : Nat → Int} (hb : Wf b) (hc : Wf c) (sc : csnd c = true) {i n : Nat} (hi : i < 12) (hn : n < 64)
theorem two_bit (n t : Nat) : ((2 : Int) ^ n).toNat.testBit t = decide (n = t) := by
  have hp : (2 : Int) ^ n = ((2 ^ n : Nat) : Int) := by push_cast; rfl
  rw [hp, Int.toNat_natCast, Nat.testBit_two_pow]
theorem step_care (b : Nat → Int) {c : Nat → Int} (hc : Wf c) {i n : Nat} (hn : n < 64) (j t : Nat) (hj : j < 12) (hi : i < 12) : bitAt (stepC b c i (2 ^ n)) (12 + j) t = (bitAt c (12 + j) t || (decide (j = i) && decide (n = t))) := by
  unfold bitAt stepC upd
  rw [if_neg (by omega)]
  by_cases e : j = i
  · subst e
    rw [if_pos rfl, bit_or (hc _) (pow_u64 hn), two_bit]; simp
  · rw [if_neg (by omega)]; simp [e]
theorem step_val {b c : Nat → Int} (hb : Wf b) (hc : Wf c) {i n : Nat} (hn : n < 64) (j t : Nat) (hj : j < 12) : bitAt (stepC b c i (2 ^ n)) j t = (bitAt c j t || (decide (j = i) && decide (n = t) && bitAt b j t)) := by
  unfold bitAt stepC upd
  by_cases e : j = i
  · subst e
    rw [if_pos rfl, bit_or (hc _) (and_wf (hb _) (pow_u64 hn)), bit_and (hb _) (pow_u64 hn), two_bit]; simp [Bool.and_comm]
  · rw [if_neg e, if_neg (by omega)]; simp [e]
theorem piece_care (b : Nat → Int) {c : Nat → Int} {i n : Nat} (j t : Nat) (hj : j < 12) (hi : i < 12) : bitAt (pieceC b c i (2 ^ n)) (12 + j) t = bitAt (stepC b c i (2 ^ n)) (12 + j) t := by
  unfold bitAt pieceC
  rw [show upd (stepC b c i (2 ^ n)) i (bits .xor .u64 (stepC b c i (2 ^ n) i) (2 ^ n)) (12 + j) = stepC b c i (2 ^ n) (12 + j) from if_neg (by omega)]
theorem piece_val {b c : Nat → Int} (hb : Wf b) (hc : Wf c) {i n : Nat} (hn : n < 64) (j t : Nat) : bitAt (pieceC b c i (2 ^ n)) j t = (bitAt (stepC b c i (2 ^ n)) j t != (decide (j = i) && decide (n = t))) := by
  unfold bitAt pieceC
  by_cases e : j = i
  · subst e
    rw [show upd (stepC b c j (2 ^ n)) j (bits .xor .u64 (stepC b c j (2 ^ n) j) (2 ^ n)) j = bits .xor .u64 (stepC b c j (2 ^ n) j) (2 ^ n) from if_pos rfl, bit_xor (stepC_wf hb hc j (pow_u64 hn) j) (pow_u64 hn), two_bit]; simp
  · rw [show upd (stepC b c i (2 ^ n)) i (bits .xor .u64 (stepC b c i (2 ^ n) i) (2 ^ n)) j = stepC b c i (2 ^ n) j from if_neg e]; simp [e]
end
theorem fit_bits {k : Nat} {x : Int} (h0 : 0 ≤ x) : fitB k x = true ↔ ∀ t, (sz k).toNat ≤ t → x.toNat.testBit t = false := by
  rw [fit_nat k x h0]
  constructor
  · intro h t ht
    exact Nat.testBit_lt_two_pow (Nat.lt_of_lt_of_le h (Nat.pow_le_pow_right (by decide) ht))
  · intro h
    exact Nat.lt_pow_two_of_testBit _ fun t ht => h t ht
/-- a step keeps a cube sound, fixes all that it fixed, and one bit more as the other cube -/
theorem step_facts {b c : Nat → Int} (hb : Wf b) (hc : Wf c) (sb : csnd b = true) (sc : csnd c = true) {i n : Nat} (hi : i < 12) (hn : n < 64) (h1 : bitAt b (12 + i) n = true) (h2 : bitAt c (12 + i) n = false) :
    csnd (stepC b c i (2 ^ n)) = true ∧ Ext c (stepC b c i (2 ^ n)) ∧ bitAt (stepC b c i (2 ^ n)) (12 + i) n = true ∧ bitAt (stepC b c i (2 ^ n)) i n = bitAt b i n ∧
    csnd (pieceC b c i (2 ^ n)) = true ∧ Ext c (pieceC b c i (2 ^ n)) ∧ bitAt (pieceC b c i (2 ^ n)) (12 + i) n = true ∧ bitAt (pieceC b c i (2 ^ n)) i n = !bitAt b i n := by
  have hw := stepC_wf hb hc i (pow_u64 hn)
  have hp := pieceC_wf hb hc i (pow_u64 hn)
  have ib := (csnd_iff hb).1 sb
  have ic := (csnd_iff hc).1 sc
  have h3 : bitAt c i n = false := by
    cases e : bitAt c i n
    · rfl
    · rw [(ic i hi).2.2 n e] at h2; cases h2
  have hnz : n < (sz i).toNat := by
    rcases Nat.lt_or_ge n (sz i).toNat with h | h
    · exact h
    · have := (fit_bits (hb (12 + i)).1).1 (ib i hi).1 n h
      unfold bitAt at h1; rw [this] at h1; cases h1
  have e1 : bitAt (stepC b c i (2 ^ n)) (12 + i) n = true := by rw [step_care b hc hn i n hi hi]; simp
  have e2 : bitAt (stepC b c i (2 ^ n)) i n = bitAt b i n := by rw [step_val hb hc hn i n hi, h3]; simp
  have fitS : ∀ j, j < 12 → fitB j (stepC b c i (2 ^ n) (12 + j)) = true ∧ fitB j (stepC b c i (2 ^ n) j) = true := by
    intro j hj
    rw [fit_bits (hw _).1, fit_bits (hw _).1]
    constructor
    · intro t ht
      have := step_care b hc hn j t hj hi
      have z := (fit_bits (hc (12 + j)).1).1 (ic j hj).1 t ht
      unfold bitAt at this
      rw [this, z]
      by_cases e : j = i
      · subst e
        have : ¬ n = t := by omega
        simp [this]
      · simp [e]
    · intro t ht
      have := step_val hb hc hn (i := i) j t hj
      have z := (fit_bits (hc j).1).1 (ic j hj).2.1 t ht
      unfold bitAt at this
      rw [this, z]
      by_cases e : j = i
      · subst e
        have : ¬ n = t := by omega
        simp [this]
      · simp [e]
  have sS : csnd (stepC b c i (2 ^ n)) = true := by
    rw [csnd_iff hw]
    intro j hj
    refine ⟨(fitS j hj).1, (fitS j hj).2, fun t => ?_⟩
    rw [step_care b hc hn j t hj hi, step_val hb hc hn j t hj]
    have p := (ic j hj).2.2 t
    revert p
    cases bitAt c j t <;> cases bitAt c (12 + j) t <;> cases decide (j = i) <;> cases decide (n = t) <;> simp
  have xS : Ext c (stepC b c i (2 ^ n)) := fun j hj t h => by
    rw [step_care b hc hn j t hj hi, step_val hb hc hn j t hj, h]
    refine ⟨rfl, ?_⟩
    by_cases e : j = i ∧ n = t
    · obtain ⟨rfl, rfl⟩ := e
      rw [h] at h2; cases h2
    · by_cases ea : j = i
      · have eb : ¬ n = t := fun q => e ⟨ea, q⟩
        simp [eb]
      · simp [ea]
  have sP : csnd (pieceC b c i (2 ^ n)) = true := by
    rw [csnd_iff hp]
    intro j hj
    have f := fitS j hj
    have q := ((csnd_iff hw).1 sS j hj).2.2
    rw [fit_bits (hw _).1, fit_bits (hw _).1] at f
    rw [fit_bits (hp _).1, fit_bits (hp _).1]
    refine ⟨fun t ht => ?_, fun t ht => ?_, fun t => ?_⟩
    · have := piece_care b (c := c) (n := n) j t hj hi
      unfold bitAt at this
      rw [this]; exact f.1 t ht
    · have := piece_val hb hc hn (i := i) j t
      unfold bitAt at this
      rw [this, f.2 t ht]
      by_cases e : j = i
      · subst e
        have : ¬ n = t := by omega
        simp [this]
      · simp [e]
    · rw [piece_care b j t hj hi, piece_val hb hc hn]
      by_cases e : j = i ∧ n = t
      · obtain ⟨rfl, rfl⟩ := e
        intro _; exact e1
      · have : (decide (j = i) && decide (n = t)) = false := by
          rw [Bool.and_eq_false_iff, decide_eq_false_iff_not, decide_eq_false_iff_not]
          by_cases ea : j = i
          · exact .inr fun q => e ⟨ea, q⟩
          · exact .inl ea
        rw [this]
        intro r
        exact q t (by simpa using r)
  refine ⟨sS, xS, e1, e2, sP, fun j hj t h => ?_, by rw [piece_care b i n hi hi]; exact e1, by rw [piece_val hb hc hn, e2]; simp⟩
  obtain ⟨p, q⟩ := xS j hj t h
  rw [piece_care b j t hj hi, piece_val hb hc hn]
  refine ⟨p, ?_⟩
  by_cases e : j = i ∧ n = t
  · obtain ⟨rfl, rfl⟩ := e
    rw [h] at h2; cases h2
  · have : (decide (j = i) && decide (n = t)) = false := by
      rw [Bool.and_eq_false_iff, decide_eq_false_iff_not, decide_eq_false_iff_not]
      by_cases ea : j = i
      · exact .inr fun q => e ⟨ea, q⟩
      · exact .inl ea
    rw [this, q]; simp
/-- what holds of the pieces of some bits of a field -/
structure Pieces (b c c' : Nat → Int) (l : List (Nat → Int)) : Prop where
  each : ∀ x ∈ l, csnd x = true ∧ Ext c x ∧ metB x b = false
  snd : csnd c' = true
  ext : Ext c c'
  pair : l.Pairwise fun x y => metB y x = false
  later : ∀ x ∈ l, ∀ y, Wf y → csnd y = true → Ext c' y → metB y x = false
theorem bits_pieces {b : Nat → Int} (hb : Wf b) (sb : csnd b = true) {i : Nat} (hi : i < 12) (L : Nat) : ∀ n, n ≤ 64 → ∀ c, Wf c → csnd c = true → (∀ t, t < n → L.testBit t = true → bitAt b (12 + i) t = true ∧ bitAt c (12 + i) t = false) →
    Pieces b c (goBits b i L n c).2 (goBits b i L n c).1
  | 0, _, c, _, sc, _ => ⟨(fun x hx => by cases hx), sc, Ext.refl c, List.Pairwise.nil, (fun x hx => by cases hx)⟩
  | n + 1, hn, c, hc, sc, H => by
    rw [goBits]
    cases hL : L.testBit n
    · exact bits_pieces hb sb hi L n (by omega) c hc sc fun t ht => H t (by omega)
    · have h64 : n < 64 := by omega
      obtain ⟨b1, b2⟩ := H n (by omega) hL
      obtain ⟨s1, s2, s3, s4, p1, p2, p3, p4⟩ := step_facts hb hc sb sc hi h64 b1 b2
      have hw := stepC_wf hb hc i (pow_u64 h64)
      have hp := pieceC_wf hb hc i (pow_u64 h64)
      have ih := bits_pieces hb sb hi L n (by omega) (stepC b c i (2 ^ n)) hw s1 fun t ht hT => by
        refine ⟨(H t (by omega) hT).1, ?_⟩
        have : ¬ n = t := by omega
        rw [step_care b hc h64 i t hi hi, (H t (by omega) hT).2]; simp [this]
      have wf := goBits_wf hb i L n (by omega) _ hw
      have key : ∀ y, Wf y → Ext (stepC b c i (2 ^ n)) y → metB y (pieceC b c i (2 ^ n)) = false := fun y wy ey => by
        obtain ⟨q1, q2⟩ := ey i hi n s3
        refine met_no wy hp hi q1 p3 ?_
        rw [q2, s4, p4]
        cases bitAt b i n <;> simp
      rw [if_pos rfl]
      refine ⟨fun x hx => ?_, ih.snd, s2.trans ih.ext, ?_, fun x hx y wy sy ey => ?_⟩
      · rcases List.mem_cons.1 hx with rfl | hx
        · refine ⟨p1, p2, met_no hp hb hi p3 b1 ?_⟩
          rw [p4]; cases bitAt b i n <;> simp
        · obtain ⟨r1, r2, r3⟩ := ih.each x hx
          exact ⟨r1, s2.trans r2, r3⟩
      · refine List.Pairwise.cons (fun y hy => ?_) ih.pair
        exact key y (wf.1 y hy) (ih.each y hy).2.1
      · rcases List.mem_cons.1 hx with rfl | hx
        · exact key y wy (ih.ext.trans ey)
        · exact ih.later x hx y wy sy ey
theorem left_bit {b c : Nat → Int} (hb : Wf b) (hc : Wf c) (i t : Nat) : (leftN b c i).testBit t = (bitAt b (12 + i) t && !bitAt c (12 + i) t) := bit_andNot (hb _) (hc _) t
theorem fields_pieces {b : Nat → Int} (hb : Wf b) (sb : csnd b = true) : ∀ m, m ≤ 12 → ∀ c, Wf c → csnd c = true → (∀ x ∈ goFields b m c, csnd x = true ∧ Ext c x ∧ metB x b = false) ∧ (goFields b m c).Pairwise fun x y => metB y x = false
  | 0, _, _, _, _ => ⟨(fun x hx => by cases hx), List.Pairwise.nil⟩
  | m + 1, hm, c, hc, sc => by
    have hP := bits_pieces hb sb (i := 11 - m) (by omega) (leftN b c (11 - m)) 64 (by omega) c hc sc fun t _ hT => by
      rw [left_bit hb hc] at hT
      rw [Bool.and_eq_true] at hT
      exact ⟨hT.1, by simpa using hT.2⟩
    have wf := goBits_wf hb (11 - m) (leftN b c (11 - m)) 64 (by omega) c hc
    obtain ⟨f1, f2⟩ := fields_pieces hb sb m (by omega) _ wf.2 hP.snd
    have f3 := goFields_wf hb m _ wf.2
    rw [goFields]
    refine ⟨fun x hx => ?_, List.pairwise_append.2 ⟨hP.pair, f2, fun x hx y hy => ?_⟩⟩
    · rcases List.mem_append.1 hx with h | h
      · exact hP.each x h
      · obtain ⟨r1, r2, r3⟩ := f1 x h
        exact ⟨r1, hP.ext.trans r2, r3⟩
    · obtain ⟨r1, r2, _⟩ := f1 y hy
      exact hP.later x hx y (f3 y hy) r1 r2
theorem in_refl {a : Nat → Int} (ha : Wf a) (sa : csnd a = true) : inB a a = true := ext_in ha ha sa sa (Ext.refl a)
/-- P2.2: the pieces lie in the first cube, have nothing of the second, and nothing in common -/
theorem less_parts {a b : Nat → Int} (ha : Wf a) (hb : Wf b) : (∀ x ∈ lessL a b, csnd x = true ∧ inB x a = true ∧ metB x b = false) ∧ (lessL a b).Pairwise fun x y => metB y x = false := by
  unfold lessL
  cases sa : csnd a
  · exact ⟨(fun x hx => by cases hx), List.Pairwise.nil⟩
  · cases sb : csnd b
    · exact ⟨(fun x hx => by cases hx), List.Pairwise.nil⟩
    · cases hm : metB a b
      · refine ⟨fun x hx => ?_, List.pairwise_singleton _ _⟩
        obtain rfl : x = a := List.mem_singleton.1 hx
        exact ⟨sa, in_refl ha sa, hm⟩
      · obtain ⟨f1, f2⟩ := fields_pieces hb sb 12 (by omega) a ha sa
        have f3 := goFields_wf hb 12 a ha
        refine ⟨fun x hx => ?_, f2⟩
        obtain ⟨r1, r2, r3⟩ := f1 x hx
        exact ⟨r1, ext_in ha (f3 x hx) sa r1 r2, r3⟩
/-- the fields' sizes, from the last one on -/
def sumSz : Nat → Nat
  | 0 => 0
  | m + 1 => (sz (11 - m)).toNat + sumSz m
theorem fields_len {b : Nat → Int} (hb : Wf b) (sb : csnd b = true) : ∀ m, m ≤ 12 → ∀ c, Wf c → (goFields b m c).length ≤ sumSz m
  | 0, _, _, _ => Nat.le_refl _
  | m + 1, hm, c, hc => by
    have wf := goBits_wf hb (11 - m) (leftN b c (11 - m)) 64 (by omega) c hc
    have ih := fields_len hb sb m (by omega) _ wf.2
    have s48 := sz_le (11 - m)
    have hk : goBits b (11 - m) (leftN b c (11 - m)) 64 c = goBits b (11 - m) (leftN b c (11 - m)) (sz (11 - m)).toNat c := by
      refine goBits_skip b (11 - m) _ c (sz (11 - m)).toNat 64 (by omega) fun t h1 _ => ?_
      have := (fit_bits (hb (12 + (11 - m))).1).1 ((csnd_iff hb).1 sb (11 - m) (by omega)).1 t h1
      rw [left_bit hb hc]
      unfold bitAt
      rw [this]; rfl
    have hl := goBits_len b (11 - m) (leftN b c (11 - m)) (sz (11 - m)).toNat c
    rw [← hk] at hl
    rw [goFields, List.length_append, sumSz]
    omega
theorem less_len {a b : Nat → Int} (ha : Wf a) (hb : Wf b) : (lessL a b).length ≤ 248 := by
  unfold lessL
  cases sa : csnd a
  · simp
  · cases sb : csnd b
    · simp
    · cases hm : metB a b
      · simp
      · have := fields_len hb sb 12 (by omega) a ha
        rw [show sumSz 12 = 248 by decide] at this
        simpa using this
/-- nothing is left of a cube that is within the other -/
theorem less_none {a b : Nat → Int} (ha : Wf a) (hb : Wf b) (h : inB a b = true) : lessL a b = [] := by
  obtain ⟨hm, hc⟩ := in_ext ha hb h
  have key : ∀ m, m ≤ 12 → goFields b m a = [] := by
    intro m
    induction m with
    | zero => intro _; rfl
    | succ m ih =>
      intro hm
      have h0 : leftN b a (11 - m) = 0 := (nat_eq_zero_iff _).2 fun t => by
        rw [left_bit hb ha]
        cases e : bitAt b (12 + (11 - m)) t
        · rfl
        · rw [hc (11 - m) t (by omega) e]; rfl
      rw [goFields, h0, goBits_end b (11 - m) 0 a 64 (by decide)]
      exact ih (by omega)
  obtain ⟨sa, sb, _⟩ := (met_iff ha hb).1 hm
  simp [lessL, sa, sb, hm, key 12 (by omega)]
end Go.Proofs.YtomnpfbebimpkaaGreatDoor
