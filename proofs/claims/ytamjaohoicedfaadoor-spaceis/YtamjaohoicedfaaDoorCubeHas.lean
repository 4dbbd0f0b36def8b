/-
  The walk of the program's Has.
-/
import Derived.Test.YtamjaohoicedfaaDoorCubeVal
namespace Go.Proofs.YtamjaohoicedfaaDoor
open Go.RowKit

/-- a row lies in a block of its own -/
def Blk (b : Nat) (cs : Array Value) (t : TypeId) (W : World) : Prop := W.heap[b]? = some (.cells cs t (0, 0))
section
variable {b : Nat} {cs : Array Value} {t : TypeId} {W W' : World}
theorem Blk.lt (h : Blk b cs t W) : b < W.heap.size := (Array.getElem?_eq_some_iff.1 (show W.heap[b]? = some _ from h)).1
theorem Blk.below (h : Blk b cs t W) (hb : Below W.heap.size W W') : Blk b cs t W' := (hb.block b h.lt).trans h
theorem Blk.new (W : World) (cs : Array Value) (t : TypeId) : Blk W.heap.size cs t (W.alloc (.cells cs t)) := heap_alloc_new _ _
theorem Blk.new2 (W : World) (o : Obj) (cs : Array Value) (t : TypeId) : Blk (W.heap.size + 1) cs t ((W.alloc o).alloc (.cells cs t)) := heap_alloc2_new _ _ _
theorem Blk.old (h : Blk b cs t W) (o : Obj) : Blk b cs t (W.alloc o) := h.below (below1 _ _)
theorem Blk.drew (h : Blk b cs t W) : Blk b cs t W.drew := h
theorem Blk.drewN (h : Blk b cs t W) : ∀ n, Blk b cs t (W.drewN n)
  | 0 => h
  | n + 1 => h.drewN n
theorem Env.drewN {w W : World} (h : Env w W) : ∀ n, Env w (W.drewN n)
  | 0 => h
  | n + 1 => (h.drewN n).drew
theorem Env.start {w : World} (ht : Tab w) (hz : 0 < w.heap.size) : Env w w := ⟨ht, hz, Below.refl _ _⟩
theorem Env.alloc {w W : World} (h : Env w W) (o : Obj) : Env w (W.alloc o) := h.below (below1 _ _)
theorem Env.kept {w W : World} (h : Env w W) : Below w.heap.size w W := h.2.2
end
/-- does a header have other bits than Value where Care has ones? -/
def offB (c h : Nat → Int) (j : Nat) : Bool := bits .and .u64 (h j) (c (12 + j)) != c j
/-- is a header in a cube? -/
def hasB (c h : Nat → Int) : Bool := csnd c && sndB h && (List.range 12).all fun j => !offB c h j
theorem hasB_cube {c h : Nat → Int} (e : csnd c = false) : hasB c h = false := by simp [hasB, e]
theorem hasB_head {c h : Nat → Int} (e : sndB h = false) : hasB c h = false := by simp [hasB, e]
theorem hasB_off {c h : Nat → Int} {j : Nat} (hj : j < 12) (e : offB c h j = true) : hasB c h = false := by
  have : ((List.range 12).all fun j => !offB c h j) = false := by
    rw [List.all_eq_false]
    exact ⟨j, by simpa using hj, by simp [e]⟩
  simp [hasB, this]
theorem hasB_yes {c h : Nat → Int} (h1 : csnd c = true) (h2 : sndB h = true) (e : ∀ j, j < 12 → offB c h j = false) : hasB c h = true := by
  have : ((List.range 12).all fun j => !offB c h j) = true := by
    rw [List.all_eq_true]
    intro j hj
    simp [e j (by simpa using hj)]
  simp [hasB, this, h1, h2]
/-- A load of a whole row behind a guard that says yes. -/
theorem loadRowG {P : Program} {ops : Array Oper} {rest : List Oper} {o : Oper} {a : Act} {w : World} {Q : Exit → Act → World → Prop} (hw : Region.wanted o (yielded ops a.tmps) = true) (ty : TypeId) (x : Operand) (ho : o.op = .load ty x)
    (g : Nat) (hx : a.eval x = .pointer (some ⟨g, 0, none⟩)) (t : TypeId) (cs : Array Value) (fr : Nat × Nat) {d : TypeDesc} (hg : w.heap[g]? = some (.cells cs t fr))
    (hu : P.underlying ty = some d) (hd : d.isRow = true) (hi : (P.info? ty).map (·.size) = some cs.size)
    (h : wpList P ops Q rest (a.put o.dst (.agg cs)) w) : wpList P ops Q (o :: rest) a w :=
  wpList_step fun K hK => by rw [if_pos hw]; exact wp_load_row ty x ho g hx t cs fr d hg hu (by cases d <;> first | rfl | (simp [TypeDesc.isRow] at hd)) hi (hK _ _ h)
theorem infoCube : (Tryd.prog.info? 30).map (·.size) = some 24 := by kernel_rfl

set_option maxHeartbeats 400000 in
theorem chas_cube (c h : Nat → Int) (c0 : ∀ j, 0 ≤ c j) (w : World) (ht : Tab w) (hz : 0 < w.heap.size) (hs : csnd c = false) :
    Calls Tryd.prog 28 #[.agg (cc c), .agg (hc h)] w fun e w' => e = .returned (.bool false) ∧ Below w.heap.size w w' := by
  have HE := Lib.hid (((Env.start ht hz).alloc (.cells (cc c) 30)).alloc (.cells (hc h) 25))
  have R0 := Lib.hid ((Blk.new w (cc c) 30).old (.cells (hc h) 25))
  have C0 := Lib.hid c0
  clear ht c0
  go_enter Tryd.func28, Tryd.ntmps28
  go_wp2_with (refine wpList_load_row rfl 30 _ rfl w.heap.size rfl 30 (cc c) (0, 0) _ R0.out Tryd.underlying30 rfl (by kernel_rfl) ?_)
  refine (csound_any c C0.out _ HE.out.tab HE.out.lt).mono ?_
  rintro e w1 ⟨rfl, hw1⟩
  go_wp2
  go_ret
  exact ⟨rfl, (HE.out.below hw1).kept⟩
set_option maxHeartbeats 400000 in
theorem chas_head (c h : Nat → Int) (c0 : ∀ j, 0 ≤ c j) (h0 : ∀ j, 0 ≤ h j) (w : World) (ht : Tab w) (hz : 0 < w.heap.size) (hs : csnd c = true) (hh : sndB h = false) :
    Calls Tryd.prog 28 #[.agg (cc c), .agg (hc h)] w fun e w' => e = .returned (.bool false) ∧ Below w.heap.size w w' := by
  have HE := Lib.hid (((Env.start ht hz).alloc (.cells (cc c) 30)).alloc (.cells (hc h) 25))
  have R0 := Lib.hid ((Blk.new w (cc c) 30).old (.cells (hc h) 25))
  have C0 := Lib.hid c0
  have R1 := Lib.hid (Blk.new2 w (.cells (cc c) 30) (hc h) 25)
  have H0 := Lib.hid h0
  clear ht c0 h0
  go_enter Tryd.func28, Tryd.ntmps28
  go_wp2_with (refine wpList_load_row rfl 30 _ rfl w.heap.size rfl 30 (cc c) (0, 0) _ R0.out Tryd.underlying30 rfl (by kernel_rfl) ?_)
  refine (csound_any c C0.out _ HE.out.tab HE.out.lt).mono ?_
  rintro e w1 ⟨rfl, hw1⟩
  have R1' := Lib.hid (R1.out.below hw1)
  have HE' := Lib.hid (HE.out.below hw1)
  clear hw1 HE R0 R1
  go_wp2_with (refine loadRowG rfl 25 _ rfl (w.heap.size + 1) rfl 25 (hc h) (0, 0) R1'.out Tryd.underlying25 rfl (by kernel_rfl) ?_)
  refine (sound_any h H0.out _ HE'.out.tab HE'.out.lt).mono ?_
  rintro e w2 ⟨rfl, hw2⟩
  go_wp2
  go_ret
  exact ⟨rfl, (HE'.out.below hw2).kept⟩
set_option maxHeartbeats 400000 in
theorem chas_loop (c h : Nat → Int) (c0 : ∀ j, 0 ≤ c j) (h0 : ∀ j, 0 ≤ h j) (w : World) (ht : Tab w) (hz : 0 < w.heap.size) (hs : csnd c = true) (hh : sndB h = true) :
    Calls Tryd.prog 28 #[.agg (cc c), .agg (hc h)] w fun e w' => e = .returned (.bool (hasB c h)) ∧ Below w.heap.size w w' := by
  have HE := Lib.hid (((Env.start ht hz).alloc (.cells (cc c) 30)).alloc (.cells (hc h) 25))
  have R0 := Lib.hid ((Blk.new w (cc c) 30).old (.cells (hc h) 25))
  have C0 := Lib.hid c0
  have R1 := Lib.hid (Blk.new2 w (.cells (cc c) 30) (hc h) 25)
  have H0 := Lib.hid h0
  have HY := Lib.hid (hasB_yes hs hh)
  clear ht c0 h0
  go_enter Tryd.func28, Tryd.ntmps28
  go_wp2_with (refine wpList_load_row rfl 30 _ rfl w.heap.size rfl 30 (cc c) (0, 0) _ R0.out Tryd.underlying30 rfl (by kernel_rfl) ?_)
  refine (csound_any c C0.out _ HE.out.tab HE.out.lt).mono ?_
  rintro e w1 ⟨rfl, hw1⟩
  have R0' := Lib.hid (R0.out.below hw1)
  have R1' := Lib.hid (R1.out.below hw1)
  have HE' := Lib.hid (HE.out.below hw1)
  clear hw1 HE R0 R1
  go_wp2_with (refine loadRowG rfl 25 _ rfl (w.heap.size + 1) rfl 25 (hc h) (0, 0) R1'.out Tryd.underlying25 rfl (by kernel_rfl) ?_)
  refine (sound_any h H0.out _ HE'.out.tab HE'.out.lt).mono ?_
  rintro e w2 ⟨rfl, hw2⟩
  have R02 := Lib.hid (R0'.out.below hw2)
  have R12 := Lib.hid (R1'.out.below hw2)
  have HE2 := Lib.hid (HE'.out.below hw2)
  clear hw2 HE' R0' R1'
  go_wp2_with (refine wpList_load_row rfl 25 _ rfl (w.heap.size + 1) rfl 25 (hc h) (0, 0) _ R12.out Tryd.underlying25 rfl (by kernel_rfl) ?_)
  clear hs hh
  go_loopw [16] (fun i wr => ∃ r : Nat, r ≤ 12 ∧ (∀ j, j < r → offB c h j = false) ∧ i = .int .i64 r ∧ Blk w.heap.size (cc c) 30 wr ∧ Env w wr) (fun i _ => (12 - intOf i).toNat)
  case atStart => exact ⟨0, by omega, fun j h => absurd h (by omega), rfl, R02.out, HE2.out⟩
  case round =>
    obtain ⟨r, hr, hq, rfl, hrow, henv⟩ := hrel
    have HQ := Lib.hid hq
    have HR := Lib.hid hrow
    have HV := Lib.hid henv
    clear hq hrow henv
    by_cases hlt : r < 12
    · have hidx := idxHead h r hlt
      have k1 := cellC HR.out (show 12 + r < 24 by omega)
      have k2 := cellC HR.out (show r < 24 by omega)
      cases ho : offB c h r
      · have ho' : (bits .and .u64 (h r) (c (12 + r)) != c r) = false := ho
        have HO := Lib.hid ho
        clear ho
        go_wp2
        go_quiet (fail)
        go_wp2
        go_roundw
        case rel =>
          refine ⟨r + 1, by omega, fun j hj => ?_, by go_num, HR.out.drewN _, HV.out.drewN _⟩
          by_cases e : j = r
          · rw [e]; exact HO.out
          · exact HQ.out j (by omega)
        case measure => simp [intOf]; omega
      · have ho' : (bits .and .u64 (h r) (c (12 + r)) != c r) = true := ho
        have HO := Lib.hid (hasB_off hlt ho)
        clear ho
        go_wp2
        go_quiet (fail)
        go_wp2
        go_ret
        exact ⟨ret_bool HO.out.symm, (HV.out.drewN _).kept⟩
    · go_wp2
      go_ret
      exact ⟨ret_bool (HY.out fun j hj => HQ.out j (by omega)).symm, HV.out.kept⟩
theorem chas_any (c h : Nat → Int) (c0 : ∀ j, 0 ≤ c j) (h0 : ∀ j, 0 ≤ h j) (w : World) (ht : Tab w) (hz : 0 < w.heap.size) :
    Calls Tryd.prog 28 #[.agg (cc c), .agg (hc h)] w fun e w' => e = .returned (.bool (hasB c h)) ∧ Below w.heap.size w w' := by
  cases hs : csnd c
  · rw [hasB_cube hs]; exact chas_cube c h c0 w ht hz hs
  · cases hv : sndB h
    · rw [hasB_head hv]; exact chas_head c h c0 h0 w ht hz hs hv
    · exact chas_loop c h c0 h0 w ht hz hs hv
end Go.Proofs.YtamjaohoicedfaaDoor
