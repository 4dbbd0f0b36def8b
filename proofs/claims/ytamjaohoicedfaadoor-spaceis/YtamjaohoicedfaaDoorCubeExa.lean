/-
  The walk of the program's Exact; the reference's Cube; what an exact cube is as a text.
-/
import Derived.Test.YtamjaohoicedfaaDoorRefText
import Derived.Test.YtamjaohoicedfaaDoorCubeFix
import Derived.Test.YtamjaohoicedfaaDoorCubeParM
namespace Go.Proofs.YtamjaohoicedfaaDoor
open Go.RowKit

/-- the cube of one header -/
def exactV (h : Nat → Int) : Nat → Int := fun j => if j < 12 then h j else mkv (sz (j - 12)).toNat (sz (j - 12)).toNat
/-- its first fields -/
def exactTo (h : Nat → Int) (r : Nat) : Nat → Int := fun j => if j < 12 then h j else if j < 12 + r then mkv (sz (j - 12)).toNat (sz (j - 12)).toNat else 0
theorem exactTo_succ (h : Nat → Int) (r : Nat) (hr : r < 12) : upd (exactTo h r) (12 + r) (mkv (sz r).toNat (sz r).toNat) = exactTo h (r + 1) := by
  funext j
  unfold upd exactTo
  by_cases e : j = 12 + r
  · subst e
    rw [if_pos rfl, if_neg (by omega), if_pos (by omega), show 12 + r - 12 = r by omega]
  · rw [if_neg e]
    by_cases h12 : j < 12
    · rw [if_pos h12, if_pos h12]
    · rw [if_neg h12, if_neg h12]
      by_cases hj : j < 12 + r
      · rw [if_pos hj, if_pos (by omega)]
      · rw [if_neg hj, if_neg (by omega)]
theorem exactTo_all (h : Nat → Int) : cc (exactTo h 12) = cc (exactV h) := by
  refine cc_ext (cc_size _) fun j hj => ?_
  rw [cc_at _ j hj]
  unfold exactTo exactV
  by_cases h12 : j < 12
  · rw [if_pos h12, if_pos h12]
  · rw [if_neg h12, if_neg h12, if_pos (by omega)]
/-- a cube built of its Value alone -/
theorem exactTo_zero (h : Nat → Int) : cc (exactTo h 0) = #[.int .u64 (h 0), .int .u64 (h 1), .int .u64 (h 2), .int .u64 (h 3), .int .u64 (h 4), .int .u64 (h 5), .int .u64 (h 6), .int .u64 (h 7), .int .u64 (h 8), .int .u64 (h 9), .int .u64 (h 10), .int .u64 (h 11), .int .u64 0, .int .u64 0, .int .u64 0, .int .u64 0, .int .u64 0, .int .u64 0, .int .u64 0, .int .u64 0, .int .u64 0, .int .u64 0, .int .u64 0, .int .u64 0] := rfl
theorem builtVal (h : Nat → Int) : Tryd.prog.built 30 [(0, .agg (hc h))] = some (cc (exactTo h 0)) := by kernel_rfl
/-- A cube written out by its Value. -/
theorem buildVal {ops : Array Oper} {rest : List Oper} {o : Oper} {a : Act} {w : World} {Q : Exit → Act → World → Prop} (hg : o.guard = none) (x : Operand) (ho : o.op = .build 30 #[(0, x)]) (h : Nat → Int) (hx : a.eval x = .agg (hc h))
    (k : wpList Tryd.prog ops Q rest (a.put o.dst (.agg (cc (exactTo h 0)))) w) : wpList Tryd.prog ops Q (o :: rest) a w := by
  have e : ((#[(0, x)] : Array (Nat × Operand)).map fun (p : Nat × Operand) => (p.1, a.eval p.2)).toList = [(0, .agg (hc h))] := by simp [hx]
  have e' := congrArg (Tryd.prog.built 30) e
  rw [builtVal] at e'
  refine wpList_build hg 30 _ ho (by rw [e']; rfl) ?_
  rw [e']
  exact k
/-- the rows of Exact -/
def ExaS (w : World) (B : Nat) (c : Nat → Int) (W : World) : Prop := Blk (w.heap.size + 1) #[Value.int IntKind.u64 0, Value.int IntKind.u64 0, Value.int IntKind.u64 0, Value.int IntKind.u64 0, Value.int IntKind.u64 0, Value.int IntKind.u64 0, Value.int IntKind.u64 0, Value.int IntKind.u64 0, Value.int IntKind.u64 0, Value.int IntKind.u64 0, Value.int IntKind.u64 0, Value.int IntKind.u64 0, Value.int IntKind.u64 0, Value.int IntKind.u64 0, Value.int IntKind.u64 0, Value.int IntKind.u64 0, Value.int IntKind.u64 0, Value.int IntKind.u64 0, Value.int IntKind.u64 0, Value.int IntKind.u64 0, Value.int IntKind.u64 0, Value.int IntKind.u64 0, Value.int IntKind.u64 0, Value.int IntKind.u64 0] 30 W ∧ Blk B (cc c) 30 W ∧ Env w W
theorem ExaS.set {w : World} {B : Nat} {c : Nat → Int} {W : World} (h : ExaS w B c W) (hz : 0 < w.heap.size) (hB : w.heap.size + 1 < B) {k : Nat} (hk : k < 24) (x : Int) : ExaS w B (upd c k x) (W.setCell ⟨B, k, none⟩ (.int .u64 x)) :=
  ⟨h.1.cother (by omega) _, h.2.1.cset hk x, h.2.2.1.setCell (by omega) _, by have := h.2.2.2.1; simpa [World.setCell] using this, h.2.2.2.2.setCell (by show w.heap.size ≤ B; omega) _⟩
/-- what Exact answers -/
def exaV (h : Nat → Int) : Nat → Int := if sndB h then exactV h else zh
theorem exactV_wf {h : Nat → Int} (hh : Wf h) : Wf (exactV h) := fun j => by
  unfold exactV
  split
  · exact hh j
  · exact mkv_u64 _ _
theorem exact_care {h : Nat → Int} {j t : Nat} (hj : j < 12) (ht : t < (sz j).toNat) : (exactV h (12 + j)).toNat.testBit t = true := by
  unfold exactV
  rw [if_neg (by omega), show 12 + j - 12 = j by omega, mkv_bit _ _ _ (Nat.le_refl _), decide_eq_true]
  omega
theorem exact_val (h : Nat → Int) {j : Nat} (hj : j < 12) : exactV h j = h j := by unfold exactV; rw [if_pos hj]
theorem exact_field (h : Nat → Int) {r : Nat} (hr : r < 12) : fieldT (exactV h r) (exactV h (12 + r)) (sz r).toNat = fieldL (h r) (sz r).toNat := by
  unfold fieldT fieldL
  refine List.map_congr_left fun k hk => ?_
  have hk' : k < (sz r).toNat := by simpa using hk
  rw [exact_care hr (by omega), exact_val h hr]
  rfl
/-- the text of an exact cube is the header, bit by bit -/
theorem exact_text (h : Nat → Int) : ∀ r, r ≤ 12 → textTo (exactV h) r = wholeTo h r
  | 0, _ => rfl
  | r + 1, hr => by rw [textTo, wholeTo, exact_text h r (by omega), exact_field h (by omega)]
theorem exact_snd {h : Nat → Int} (hh : Wf h) (hs : sndB h = true) : csnd (exactV h) = true := by
  rw [csnd_iff (exactV_wf hh)]
  intro j hj
  have hf := (snd_iff h).1 hs j hj
  refine ⟨?_, by rw [exact_val h hj]; exact hf, fun t ht => ?_⟩
  · unfold exactV
    rw [if_neg (by omega), show 12 + j - 12 = j by omega]
    exact fit_mkv j _
  · unfold bitAt at ht ⊢
    rw [exact_val h hj] at ht
    refine exact_care hj ?_
    rcases Nat.lt_or_ge t (sz j).toNat with h1 | h1
    · exact h1
    · rw [(fit_bits (hh j).1).1 hf t h1] at ht; cases ht
theorem exact_has {h : Nat → Int} (hh : Wf h) (hs : sndB h = true) : hasB (exactV h) h = true := by
  refine hasB_yes (exact_snd hh hs) hs fun j hj => ?_
  rw [off_iff (exactV_wf hh) hh]
  intro t
  unfold bitAt
  rw [exact_val h hj]
  rcases Nat.lt_or_ge t (sz j).toNat with h1 | h1
  · rw [exact_care hj h1, Bool.and_true]
  · rw [(fit_bits (hh j).1).1 ((snd_iff h).1 hs j hj) t h1, Bool.false_and]
theorem okTo_iff (c : Nat → Int) : ∀ r, okTo c r = true ↔ sndB (care c) = true ∧ ∀ j, j < r → overB c j = false
  | 0 => by simp [okTo]
  | r + 1 => by
    rw [okTo, Bool.and_eq_true, okTo_iff c r]
    constructor
    · rintro ⟨⟨h1, h2⟩, h3⟩
      refine ⟨h1, fun j hj => ?_⟩
      by_cases e : j = r
      · subst e; simpa using h3
      · exact h2 j (by omega)
    · rintro ⟨h1, h2⟩
      exact ⟨⟨h1, fun j hj => h2 j (by omega)⟩, by simp [h2 r (by omega)]⟩
/-- the reference's soundness is the program's -/
theorem ok_snd {c : Nat → Int} (hc : Wf c) : okTo c 12 = csnd c := by
  rw [Bool.eq_iff_iff, okTo_iff, csnd_iff hc]
  constructor
  · rintro ⟨h1, h2⟩ j hj
    have p := (snd_iff _).1 h1 j hj
    have q := (over_iff hc j).1 (h2 j hj)
    refine ⟨p, ?_, q⟩
    have p' := (fit_bits (hc (12 + j)).1).1 p
    refine (fit_bits (hc j).1).2 fun t ht => ?_
    cases e : (c j).toNat.testBit t
    · rfl
    · have := q t e
      unfold bitAt at this
      rw [p' t ht] at this; cases this
  · intro H
    exact ⟨(snd_iff _).2 fun j hj => (H j hj).1, fun j hj => (over_iff hc j).2 (H j hj).2.2⟩
theorem rtext_any (c : Nat → Int) (hc : Wf c) (w : World) :
    Calls Tryd.prog 21 #[.agg (cc c)] w fun e w' => e = .returned (.tuple #[.string ⟨(textTo c 12).toArray⟩, .bool (csnd c)]) ∧ Below w.heap.size w w' := by
  have := rtext_of c hc w
  rwa [ok_snd hc] at this
set_option maxHeartbeats 400000 in
theorem rcube_any (c : Nat → Int) (hc : Wf c) (w : World) :
    Calls Tryd.prog 26 #[.agg (cc c)] w fun e w' => e = .returned (.bool (csnd c)) ∧ Below w.heap.size w w' := by
  have HT := Lib.hid fun W => rtext_any c hc W
  have R0 := Lib.hid (Blk.new w (cc c) 30)
  clear hc
  go_enter Tryd.func26, Tryd.ntmps26
  go_wp2_with (refine wpList_load_row rfl 30 _ rfl w.heap.size rfl 30 (cc c) (0, 0) _ R0.out Tryd.underlying30 rfl (by kernel_rfl) ?_)
  refine (HT.out _).mono ?_
  rintro e w1 ⟨rfl, hw1⟩
  go_wp2
  go_ret
  exact ⟨rfl, (below1 _ _).trans (hw1.mono (by simp))⟩
end Go.Proofs.YtamjaohoicedfaaDoor
