/-
  The walk of the program's Exact; the reference's Cube; what an exact cube is as a text.
-/
import Derived.Test.YtioiecaklbifnaaDoorRefText
import Derived.Test.YtioiecaklbifnaaDoorCubeFix
import Derived.Test.YtioiecaklbifnaaDoorCubeParM
namespace Go.Proofs.YtioiecaklbifnaaDoor
open Go.RowKit

/-- the cube of one header -/
def exactV (h : Nat → Int) : Nat → Int := fun j => if j < 12 then h j else mkv (sz (j - 12)).toNat (sz (j - 12)).toNat
/-- its first fields -/
def exactTo (h : Nat → Int) (r : Nat) : Nat → Int := fun j => if j < 12 then h j else if j < 12 + r then mkv (sz (j - 12)).toNat (sz (j - 12)).toNat else 0
theorem exactTo_succ (h : Nat → Int) (r : Nat) (hr : r < 12) : upd (exactTo h r) (12 + r) (mkv (sz r).toNat (sz r).toNat) = exactTo h (r + 1) := by
  funext j
  unfold upd exactTo
  by_cases e : j = 12 + r
  · subst e
    rw [if_pos rfl, if_neg (by omega), if_pos (by omega), show 12 + r - 12 = r by omega]
  · rw [if_neg e]
    by_cases h12 : j < 12
    · rw [if_pos h12, if_pos h12]
    · rw [if_neg h12, if_neg h12]
      by_cases hj : j < 12 + r
      · rw [if_pos hj, if_pos (by omega)]
      · rw [if_neg hj, if_neg (by omega)]
theorem exactTo_all (h : Nat → Int) : cc (exactTo h 12) = cc (exactV h) := by
  refine cc_ext (cc_size _) fun j hj => ?_
  rw [cc_at _ j hj]
  unfold exactTo exactV
  by_cases h12 : j < 12
  · rw [if_pos h12, if_pos h12]
  · rw [if_neg h12, if_neg h12, if_pos (by omega)]
/-- a cube built of its Value alone -/
theorem exactTo_zero (h : Nat → Int) : cc (exactTo h 0) = #[.int .u64 (h 0), .int .u64 (h 1), .int .u64 (h 2), .int .u64 (h 3), .int .u64 (h 4), .int .u64 (h 5), .int .u64 (h 6), .int .u64 (h 7), .int .u64 (h 8), .int .u64 (h 9), .int .u64 (h 10), .int .u64 (h 11), .int .u64 0, .int .u64 0, .int .u64 0, .int .u64 0, .int .u64 0, .int .u64 0, .int .u64 0, .int .u64 0, .int .u64 0, .int .u64 0, .int .u64 0, .int .u64 0] := rfl
set_option maxHeartbeats 400000 in
theorem cexact_no (h : Nat → Int) (h0 : ∀ j, 0 ≤ h j) (w : World) (ht : Tab w) (hz : 0 < w.heap.size) (hs : sndB h = false) :
    Calls Tryd.prog 9 #[.agg (hc h)] w fun e w' => e = .returned (.tuple #[.agg (cc zh), .bool false]) ∧ Below w.heap.size w w' := by
  have HE := Lib.hid (((Env.start ht hz).alloc (.cells (hc h) 24)).alloc (.cells #[Value.int IntKind.u64 0, Value.int IntKind.u64 0, Value.int IntKind.u64 0, Value.int IntKind.u64 0, Value.int IntKind.u64 0, Value.int IntKind.u64 0, Value.int IntKind.u64 0, Value.int IntKind.u64 0, Value.int IntKind.u64 0, Value.int IntKind.u64 0, Value.int IntKind.u64 0, Value.int IntKind.u64 0, Value.int IntKind.u64 0, Value.int IntKind.u64 0, Value.int IntKind.u64 0, Value.int IntKind.u64 0, Value.int IntKind.u64 0, Value.int IntKind.u64 0, Value.int IntKind.u64 0, Value.int IntKind.u64 0, Value.int IntKind.u64 0, Value.int IntKind.u64 0, Value.int IntKind.u64 0, Value.int IntKind.u64 0] 26))
  have R0 := Lib.hid ((Blk.new w (hc h) 24).old (.cells #[Value.int IntKind.u64 0, Value.int IntKind.u64 0, Value.int IntKind.u64 0, Value.int IntKind.u64 0, Value.int IntKind.u64 0, Value.int IntKind.u64 0, Value.int IntKind.u64 0, Value.int IntKind.u64 0, Value.int IntKind.u64 0, Value.int IntKind.u64 0, Value.int IntKind.u64 0, Value.int IntKind.u64 0, Value.int IntKind.u64 0, Value.int IntKind.u64 0, Value.int IntKind.u64 0, Value.int IntKind.u64 0, Value.int IntKind.u64 0, Value.int IntKind.u64 0, Value.int IntKind.u64 0, Value.int IntKind.u64 0, Value.int IntKind.u64 0, Value.int IntKind.u64 0, Value.int IntKind.u64 0, Value.int IntKind.u64 0] 26))
  have R1 := Lib.hid (Blk.new2 w (.cells (hc h) 24) #[Value.int IntKind.u64 0, Value.int IntKind.u64 0, Value.int IntKind.u64 0, Value.int IntKind.u64 0, Value.int IntKind.u64 0, Value.int IntKind.u64 0, Value.int IntKind.u64 0, Value.int IntKind.u64 0, Value.int IntKind.u64 0, Value.int IntKind.u64 0, Value.int IntKind.u64 0, Value.int IntKind.u64 0, Value.int IntKind.u64 0, Value.int IntKind.u64 0, Value.int IntKind.u64 0, Value.int IntKind.u64 0, Value.int IntKind.u64 0, Value.int IntKind.u64 0, Value.int IntKind.u64 0, Value.int IntKind.u64 0, Value.int IntKind.u64 0, Value.int IntKind.u64 0, Value.int IntKind.u64 0, Value.int IntKind.u64 0] 26)
  have H0 := Lib.hid h0
  clear ht h0
  go_enter Tryd.func9, Tryd.ntmps9
  go_wp2_with (refine wpList_load_row rfl 24 _ rfl w.heap.size rfl 24 (hc h) (0, 0) _ R0.out Tryd.underlying24 rfl (by kernel_rfl) ?_)
  refine (sound_any h H0.out _ HE.out.tab HE.out.lt).mono ?_
  rintro e w1 ⟨rfl, hw1⟩
  have R11 := Lib.hid (R1.out.below hw1)
  have HB := Lib.hid (HE.out.below hw1).kept
  clear hw1 HE R0 R1
  go_wp2_with (refine wpList_store_row rfl 26 _ _ rfl (w.heap.size + 1) #[Value.int IntKind.u64 0, Value.int IntKind.u64 0, Value.int IntKind.u64 0, Value.int IntKind.u64 0, Value.int IntKind.u64 0, Value.int IntKind.u64 0, Value.int IntKind.u64 0, Value.int IntKind.u64 0, Value.int IntKind.u64 0, Value.int IntKind.u64 0, Value.int IntKind.u64 0, Value.int IntKind.u64 0, Value.int IntKind.u64 0, Value.int IntKind.u64 0, Value.int IntKind.u64 0, Value.int IntKind.u64 0, Value.int IntKind.u64 0, Value.int IntKind.u64 0, Value.int IntKind.u64 0, Value.int IntKind.u64 0, Value.int IntKind.u64 0, Value.int IntKind.u64 0, Value.int IntKind.u64 0, Value.int IntKind.u64 0] rfl rfl 26 _ R11.out (by kernel_rfl) rfl (by kernel_rfl) ?_)
  refine bodyPost_ret (v := .tuple #[.agg (cc zh), .bool false]) ?_ rfl ⟨rfl, below_setRow HB.out (by omega) _⟩
  exact res_row Tryd.results9 (cs := cc zh) rfl rfl (R11.out.rset _) Tryd.underlying26 rfl (by kernel_rfl)
theorem builtVal (h : Nat → Int) : Tryd.prog.built 26 [(0, .agg (hc h))] = some (cc (exactTo h 0)) := by kernel_rfl
/-- A cube written out by its Value. -/
theorem buildVal {ops : Array Oper} {rest : List Oper} {o : Oper} {a : Act} {w : World} {Q : Exit → Act → World → Prop} (hg : o.guard = none) (x : Operand) (ho : o.op = .build 26 #[(0, x)]) (h : Nat → Int) (hx : a.eval x = .agg (hc h))
    (k : wpList Tryd.prog ops Q rest (a.put o.dst (.agg (cc (exactTo h 0)))) w) : wpList Tryd.prog ops Q (o :: rest) a w := by
  have e : ((#[(0, x)] : Array (Nat × Operand)).map fun (p : Nat × Operand) => (p.1, a.eval p.2)).toList = [(0, .agg (hc h))] := by simp [hx]
  have e' := congrArg (Tryd.prog.built 26) e
  rw [builtVal] at e'
  refine wpList_build hg 26 _ ho (by rw [e']; rfl) ?_
  rw [e']
  exact k
/-- the rows of Exact -/
def ExaS (w : World) (B : Nat) (c : Nat → Int) (W : World) : Prop := Blk (w.heap.size + 1) #[Value.int IntKind.u64 0, Value.int IntKind.u64 0, Value.int IntKind.u64 0, Value.int IntKind.u64 0, Value.int IntKind.u64 0, Value.int IntKind.u64 0, Value.int IntKind.u64 0, Value.int IntKind.u64 0, Value.int IntKind.u64 0, Value.int IntKind.u64 0, Value.int IntKind.u64 0, Value.int IntKind.u64 0, Value.int IntKind.u64 0, Value.int IntKind.u64 0, Value.int IntKind.u64 0, Value.int IntKind.u64 0, Value.int IntKind.u64 0, Value.int IntKind.u64 0, Value.int IntKind.u64 0, Value.int IntKind.u64 0, Value.int IntKind.u64 0, Value.int IntKind.u64 0, Value.int IntKind.u64 0, Value.int IntKind.u64 0] 26 W ∧ Blk B (cc c) 26 W ∧ Env w W
theorem ExaS.set {w : World} {B : Nat} {c : Nat → Int} {W : World} (h : ExaS w B c W) (hz : 0 < w.heap.size) (hB : w.heap.size + 1 < B) {k : Nat} (hk : k < 24) (x : Int) : ExaS w B (upd c k x) (W.setCell ⟨B, k, none⟩ (.int .u64 x)) :=
  ⟨h.1.cother (by omega) _, h.2.1.cset hk x, h.2.2.1.setCell (by omega) _, by have := h.2.2.2.1; simpa [World.setCell] using this, h.2.2.2.2.setCell (by show w.heap.size ≤ B; omega) _⟩
set_option maxHeartbeats 1000000 in
theorem cexact_yes (h : Nat → Int) (h0 : ∀ j, 0 ≤ h j) (w : World) (ht : Tab w) (hz : 0 < w.heap.size) (hs : sndB h = true) :
    Calls Tryd.prog 9 #[.agg (hc h)] w fun e w' => e = .returned (.tuple #[.agg (cc (exactV h)), .bool true]) ∧ Below w.heap.size w w' := by
  have HE := Lib.hid (((Env.start ht hz).alloc (.cells (hc h) 24)).alloc (.cells #[Value.int IntKind.u64 0, Value.int IntKind.u64 0, Value.int IntKind.u64 0, Value.int IntKind.u64 0, Value.int IntKind.u64 0, Value.int IntKind.u64 0, Value.int IntKind.u64 0, Value.int IntKind.u64 0, Value.int IntKind.u64 0, Value.int IntKind.u64 0, Value.int IntKind.u64 0, Value.int IntKind.u64 0, Value.int IntKind.u64 0, Value.int IntKind.u64 0, Value.int IntKind.u64 0, Value.int IntKind.u64 0, Value.int IntKind.u64 0, Value.int IntKind.u64 0, Value.int IntKind.u64 0, Value.int IntKind.u64 0, Value.int IntKind.u64 0, Value.int IntKind.u64 0, Value.int IntKind.u64 0, Value.int IntKind.u64 0] 26))
  have R0 := Lib.hid ((Blk.new w (hc h) 24).old (.cells #[Value.int IntKind.u64 0, Value.int IntKind.u64 0, Value.int IntKind.u64 0, Value.int IntKind.u64 0, Value.int IntKind.u64 0, Value.int IntKind.u64 0, Value.int IntKind.u64 0, Value.int IntKind.u64 0, Value.int IntKind.u64 0, Value.int IntKind.u64 0, Value.int IntKind.u64 0, Value.int IntKind.u64 0, Value.int IntKind.u64 0, Value.int IntKind.u64 0, Value.int IntKind.u64 0, Value.int IntKind.u64 0, Value.int IntKind.u64 0, Value.int IntKind.u64 0, Value.int IntKind.u64 0, Value.int IntKind.u64 0, Value.int IntKind.u64 0, Value.int IntKind.u64 0, Value.int IntKind.u64 0, Value.int IntKind.u64 0] 26))
  have R1 := Lib.hid (Blk.new2 w (.cells (hc h) 24) #[Value.int IntKind.u64 0, Value.int IntKind.u64 0, Value.int IntKind.u64 0, Value.int IntKind.u64 0, Value.int IntKind.u64 0, Value.int IntKind.u64 0, Value.int IntKind.u64 0, Value.int IntKind.u64 0, Value.int IntKind.u64 0, Value.int IntKind.u64 0, Value.int IntKind.u64 0, Value.int IntKind.u64 0, Value.int IntKind.u64 0, Value.int IntKind.u64 0, Value.int IntKind.u64 0, Value.int IntKind.u64 0, Value.int IntKind.u64 0, Value.int IntKind.u64 0, Value.int IntKind.u64 0, Value.int IntKind.u64 0, Value.int IntKind.u64 0, Value.int IntKind.u64 0, Value.int IntKind.u64 0, Value.int IntKind.u64 0] 26)
  have H0 := Lib.hid h0
  clear ht h0
  go_enter Tryd.func9, Tryd.ntmps9
  go_wp2_with (refine wpList_load_row rfl 24 _ rfl w.heap.size rfl 24 (hc h) (0, 0) _ R0.out Tryd.underlying24 rfl (by kernel_rfl) ?_)
  refine (sound_any h H0.out _ HE.out.tab HE.out.lt).mono ?_
  rintro e w1 ⟨rfl, hw1⟩
  have R01 := Lib.hid (R0.out.below hw1)
  have R11 := Lib.hid (R1.out.below hw1)
  have HE1 := Lib.hid (HE.out.below hw1)
  clear hw1 HE R0 R1
  go_wp2_with (first
    | (refine wpList_load_row rfl 24 _ rfl w.heap.size rfl 24 (hc h) (0, 0) _ R01.out Tryd.underlying24 rfl (by kernel_rfl) ?_)
    | (refine buildVal rfl _ rfl h rfl ?_)
    | (refine wpList_store_row rfl 26 _ _ rfl w1.heap.size (cc (exactTo h 0)) rfl rfl 26 _ (heap_alloc_new _ _) (by kernel_rfl) rfl (cc_one _) ?_; rw [World.setRow_alloc_new]))
  have S0 := Lib.hid (show ExaS w w1.heap.size (exactTo h 0) (w1.alloc (.cells (cc (exactTo h 0)) 26)) from ⟨R11.out.old _, Blk.new _ _ _, HE1.out.alloc _⟩)
  have hB : w.heap.size + 1 < w1.heap.size := R11.out.lt
  clear R01 R11 HE1 hs
  go_loopw [12] (fun i wr => ∃ r : Nat, r ≤ 12 ∧ i = .int .i64 r ∧ ExaS w w1.heap.size (exactTo h r) wr) (fun i _ => (12 - intOf i).toNat)
  case atStart => exact ⟨0, by omega, rfl, S0.out⟩
  case round =>
    clear S0
    obtain ⟨r, hr, rfl, hS⟩ := hrel
    have HS := Lib.hid hS
    clear hS
    by_cases hlt : r < 12
    · have hrI : (r : Int) < 12 := by omega
      obtain ⟨s0, s1⟩ := sz_le r
      obtain ⟨n, hn⟩ : ∃ n : Nat, sz r = n := ⟨(sz r).toNat, by omega⟩
      have hnn : (sz r).toNat = n := by omega
      have HSZ := Lib.hid (size_in r wr hlt HS.out.2.2.tab)
      have HM := Lib.hid (mask_in r n wr hlt (by omega) HS.out.2.2.tab)
      rw [hn] at HSZ
      have HX := Lib.hid (exactTo_succ h r hlt)
      rw [hnn] at HX HM
      clear hn hnn s0 s1
      have k1 := cellC HS.out.2.1 (show 12 + r < 24 by omega)
      have f1 := frozen_of_row _ w1.heap.size (12 + r) _ _ HS.out.2.1
      go_wp2_with (first
        | (go_at_call 34; refine HSZ.out.mono ?_; rintro e w' ⟨rfl, rfl⟩)
        | (go_at_call 33; refine HM.out.mono ?_; rintro e w' ⟨rfl, rfl⟩))
      clear k1 f1
      have HS2 := Lib.hid (HS.out.set hz hB (show 12 + r < 24 by omega) (mkv n n))
      rw [HX.out] at HS2
      go_roundw
      case rel => exact ⟨r + 1, by omega, by go_num, HS2.out⟩
      case measure => simp [intOf]; omega
    · obtain rfl : r = 12 := by omega
      go_wp2_with (first
        | (refine wpList_load_row rfl 26 _ rfl w1.heap.size rfl 26 (cc (exactTo h 12)) (0, 0) _ HS.out.2.1 Tryd.underlying26 rfl (by kernel_rfl) ?_)
        | (refine wpList_store_row rfl 26 _ _ rfl (w.heap.size + 1) (cc (exactTo h 12)) rfl rfl 26 _ HS.out.1 (by kernel_rfl) rfl (cc_one _) ?_))
      refine bodyPost_ret (v := .tuple #[.agg (cc (exactTo h 12)), .bool true]) ?_ rfl ⟨by rw [exactTo_all], below_setRow HS.out.2.2.kept (by omega) _⟩
      exact res_row Tryd.results9 rfl rfl (HS.out.1.rset _) Tryd.underlying26 rfl (by kernel_rfl)
/-- what Exact answers -/
def exaV (h : Nat → Int) : Nat → Int := if sndB h then exactV h else zh
theorem cexact_any (h : Nat → Int) (h0 : ∀ j, 0 ≤ h j) (w : World) (ht : Tab w) (hz : 0 < w.heap.size) :
    Calls Tryd.prog 9 #[.agg (hc h)] w fun e w' => e = .returned (.tuple #[.agg (cc (exaV h)), .bool (sndB h)]) ∧ Below w.heap.size w w' := by
  unfold exaV
  cases hs : sndB h
  · exact cexact_no h h0 w ht hz hs
  · exact cexact_yes h h0 w ht hz hs
theorem exactV_wf {h : Nat → Int} (hh : Wf h) : Wf (exactV h) := fun j => by
  unfold exactV
  split
  · exact hh j
  · exact mkv_u64 _ _
theorem exact_care {h : Nat → Int} {j t : Nat} (hj : j < 12) (ht : t < (sz j).toNat) : (exactV h (12 + j)).toNat.testBit t = true := by
  unfold exactV
  rw [if_neg (by omega), show 12 + j - 12 = j by omega, mkv_bit _ _ _ (Nat.le_refl _), decide_eq_true]
  omega
theorem exact_val (h : Nat → Int) {j : Nat} (hj : j < 12) : exactV h j = h j := by unfold exactV; rw [if_pos hj]
theorem exact_field (h : Nat → Int) {r : Nat} (hr : r < 12) : fieldT (exactV h r) (exactV h (12 + r)) (sz r).toNat = fieldL (h r) (sz r).toNat := by
  unfold fieldT fieldL
  refine List.map_congr_left fun k hk => ?_
  have hk' : k < (sz r).toNat := by simpa using hk
  rw [exact_care hr (by omega), exact_val h hr]
  rfl
/-- the text of an exact cube is the header, bit by bit -/
theorem exact_text (h : Nat → Int) : ∀ r, r ≤ 12 → textTo (exactV h) r = wholeTo h r
  | 0, _ => rfl
  | r + 1, hr => by rw [textTo, wholeTo, exact_text h r (by omega), exact_field h (by omega)]
theorem exact_snd {h : Nat → Int} (hh : Wf h) (hs : sndB h = true) : csnd (exactV h) = true := by
  rw [csnd_iff (exactV_wf hh)]
  intro j hj
  have hf := (snd_iff h).1 hs j hj
  refine ⟨?_, by rw [exact_val h hj]; exact hf, fun t ht => ?_⟩
  · unfold exactV
    rw [if_neg (by omega), show 12 + j - 12 = j by omega]
    exact fit_mkv j _
  · unfold bitAt at ht ⊢
    rw [exact_val h hj] at ht
    refine exact_care hj ?_
    rcases Nat.lt_or_ge t (sz j).toNat with h1 | h1
    · exact h1
    · rw [(fit_bits (hh j).1).1 hf t h1] at ht; cases ht
theorem exact_has {h : Nat → Int} (hh : Wf h) (hs : sndB h = true) : hasB (exactV h) h = true := by
  refine hasB_yes (exact_snd hh hs) hs fun j hj => ?_
  rw [off_iff (exactV_wf hh) hh]
  intro t
  unfold bitAt
  rw [exact_val h hj]
  rcases Nat.lt_or_ge t (sz j).toNat with h1 | h1
  · rw [exact_care hj h1, Bool.and_true]
  · rw [(fit_bits (hh j).1).1 ((snd_iff h).1 hs j hj) t h1, Bool.false_and]
theorem okTo_iff (c : Nat → Int) : ∀ r, okTo c r = true ↔ sndB (care c) = true ∧ ∀ j, j < r → overB c j = false
  | 0 => by simp [okTo]
  | r + 1 => by
    rw [okTo, Bool.and_eq_true, okTo_iff c r]
    constructor
    · rintro ⟨⟨h1, h2⟩, h3⟩
      refine ⟨h1, fun j hj => ?_⟩
      by_cases e : j = r
      · subst e; simpa using h3
      · exact h2 j (by omega)
    · rintro ⟨h1, h2⟩
      exact ⟨⟨h1, fun j hj => h2 j (by omega)⟩, by simp [h2 r (by omega)]⟩
/-- the reference's soundness is the program's -/
theorem ok_snd {c : Nat → Int} (hc : Wf c) : okTo c 12 = csnd c := by
  rw [Bool.eq_iff_iff, okTo_iff, csnd_iff hc]
  constructor
  · rintro ⟨h1, h2⟩ j hj
    have p := (snd_iff _).1 h1 j hj
    have q := (over_iff hc j).1 (h2 j hj)
    refine ⟨p, ?_, q⟩
    have p' := (fit_bits (hc (12 + j)).1).1 p
    refine (fit_bits (hc j).1).2 fun t ht => ?_
    cases e : (c j).toNat.testBit t
    · rfl
    · have := q t e
      unfold bitAt at this
      rw [p' t ht] at this; cases this
  · intro H
    exact ⟨(snd_iff _).2 fun j hj => (H j hj).1, fun j hj => (over_iff hc j).2 (H j hj).2.2⟩
theorem rtext_any (c : Nat → Int) (hc : Wf c) (w : World) :
    Calls Tryd.prog 16 #[.agg (cc c)] w fun e w' => e = .returned (.tuple #[.string ⟨(textTo c 12).toArray⟩, .bool (csnd c)]) ∧ Below w.heap.size w w' := by
  have := rtext_of c hc w
  rwa [ok_snd hc] at this
set_option maxHeartbeats 400000 in
theorem rcube_any (c : Nat → Int) (hc : Wf c) (w : World) :
    Calls Tryd.prog 14 #[.agg (cc c)] w fun e w' => e = .returned (.bool (csnd c)) ∧ Below w.heap.size w w' := by
  have HT := Lib.hid fun W => rtext_any c hc W
  have R0 := Lib.hid (Blk.new w (cc c) 26)
  clear hc
  go_enter Tryd.func14, Tryd.ntmps14
  go_wp2_with (refine wpList_load_row rfl 26 _ rfl w.heap.size rfl 26 (cc c) (0, 0) _ R0.out Tryd.underlying26 rfl (by kernel_rfl) ?_)
  refine (HT.out _).mono ?_
  rintro e w1 ⟨rfl, hw1⟩
  go_wp2
  go_ret
  exact ⟨rfl, (below1 _ _).trans (hw1.mono (by simp))⟩
end Go.Proofs.YtioiecaklbifnaaDoor
