/-
  The program's reader: mod, rule.
-/
import Derived.Test.YtndgbgolmpoepaaDoorCodRdb
namespace Go.Proofs.YtndgbgolmpoepaaDoor
set_option maxRecDepth 20000
open Go.RowKit

/-- what the program takes a Check for -/
abbrev chkP : Int → Bool := fun n => decide (0 < n)
theorem builtMd (k : Int) (m : Nat → Int) (p i h ow : Int) (c : Bool) (q : Option Addr) (n cp : Nat) (ac : List Ac) : Tryd.prog.built 30 [(0, .int .i64 k), (1, .agg (cc m)), (2, .int .i64 p), (4, .int .i64 i), (5, .int .i64 h), (6, .int .i64 ow), (7, .bool c), (3, .slice q n cp)] = some (mca ⟨⟨k, m, p, ac, i, h, ow, c⟩, q, n, cp⟩) := by kernel_rfl
theorem buildMd {ops : Array Oper} {rest : List Oper} {o : Oper} {a : Act} {w : World} {Q : Exit → Act → World → Prop} (hg : o.guard = none) (x0 x1 x2 x4 x5 x6 x7 x3 : Operand) (ho : o.op = .build 30 #[(0, x0), (1, x1), (2, x2), (4, x4), (5, x5), (6, x6), (7, x7), (3, x3)])
    (k : Int) (m : Nat → Int) (p i h ow : Int) (c : Bool) (q : Option Addr) (n cp : Nat) (ac : List Ac)
    (h0 : a.eval x0 = .int .i64 k) (h1 : a.eval x1 = .agg (cc m)) (h2 : a.eval x2 = .int .i64 p) (h4 : a.eval x4 = .int .i64 i) (h5 : a.eval x5 = .int .i64 h) (h6 : a.eval x6 = .int .i64 ow) (h7 : a.eval x7 = .bool c) (h3 : a.eval x3 = .slice q n cp)
    (hh : wpList Tryd.prog ops Q rest (a.put o.dst (.agg (mca ⟨⟨k, m, p, ac, i, h, ow, c⟩, q, n, cp⟩))) w) : wpList Tryd.prog ops Q (o :: rest) a w := by
  have e : ((#[(0, x0), (1, x1), (2, x2), (4, x4), (5, x5), (6, x6), (7, x7), (3, x3)] : Array (Nat × Operand)).map fun (p : Nat × Operand) => (p.1, a.eval p.2)).toList = [(0, .int .i64 k), (1, .agg (cc m)), (2, .int .i64 p), (4, .int .i64 i), (5, .int .i64 h), (6, .int .i64 ow), (7, .bool c), (3, .slice q n cp)] := by simp [h0, h1, h2, h3, h4, h5, h6, h7]
  have e' := congrArg (Tryd.prog.built 30) e
  rw [builtMd _ _ _ _ _ _ _ _ _ _ ac] at e'
  refine wpList_build hg 30 _ ho (by rw [e']; rfl) ?_
  rw [e']
  exact hh
theorem builtRl (m : Nat → Int) (p i h ow : Int) : Tryd.prog.built 65 [(0, .agg (cc m)), (1, .int .i64 p), (3, .int .i64 i), (4, .int .i64 h), (5, .int .i64 ow)] = some (rca ⟨⟨m, p, [], i, h, ow, 0, 0, 0⟩, none, 0, 0⟩) := by kernel_rfl
theorem buildRl {ops : Array Oper} {rest : List Oper} {o : Oper} {a : Act} {w : World} {Q : Exit → Act → World → Prop} (hg : o.guard = none) (x0 x1 x3 x4 x5 : Operand) (ho : o.op = .build 65 #[(0, x0), (1, x1), (3, x3), (4, x4), (5, x5)])
    (m : Nat → Int) (p i h ow : Int) (h0 : a.eval x0 = .agg (cc m)) (h1 : a.eval x1 = .int .i64 p) (h3 : a.eval x3 = .int .i64 i) (h4 : a.eval x4 = .int .i64 h) (h5 : a.eval x5 = .int .i64 ow)
    (hh : wpList Tryd.prog ops Q rest (a.put o.dst (.agg (rca ⟨⟨m, p, [], i, h, ow, 0, 0, 0⟩, none, 0, 0⟩))) w) : wpList Tryd.prog ops Q (o :: rest) a w := by
  have e : ((#[(0, x0), (1, x1), (3, x3), (4, x4), (5, x5)] : Array (Nat × Operand)).map fun (p : Nat × Operand) => (p.1, a.eval p.2)).toList = [(0, .agg (cc m)), (1, .int .i64 p), (3, .int .i64 i), (4, .int .i64 h), (5, .int .i64 ow)] := by simp [h0, h1, h3, h4, h5]
  have e' := congrArg (Tryd.prog.built 65) e
  rw [builtRl] at e'
  refine wpList_build hg 65 _ ho (by rw [e']; rfl) ?_
  rw [e']
  exact hh
theorem ne_pos {q : Int} (h : 0 ≤ q) : (q != 0) = decide (0 < q) := by
  by_cases e : q = 0
  · subst e; rfl
  · rw [show (q != 0) = true by simpa using e]; exact (decide_eq_true (by omega)).symm
theorem KOwns.rset {α : Type} {K : Kd α} {B g : Nat} {v : Value} {l : List α} {W : World} {cs : Array Value} (h : KOwns K B v l W) (hg : g < B) : KOwns K B v l (W.setRow g cs) := h.other fun j hj _ => setRow_other _ _ _ _ (by omega)
theorem KOwns.cset {α : Type} {K : Kd α} {B g k : Nat} {v x : Value} {l : List α} {W : World} (h : KOwns K B v l W) (hg : g < B) : KOwns K B v l (W.setCell ⟨g, k, none⟩ x) := h.other fun j hj _ => heap_setCell_other _ _ _ _ (by show j ≠ g; omega)
theorem gN_byte1 {s : Nat} {x x' : Sta} {n : Int} (h : gN s x = (n, x')) (hb : ByL x.1) : ByL x'.1 := by
  have := gN_byte (s := s) hb
  rw [h] at this
  exact this
theorem gNs_byte1 {ss : List Nat} {x x' : Sta} {l : List Int} (h : gNs ss x = (l, x')) (hb : ByL x.1) : ByL x'.1 := by
  have := gNs_byte ss hb
  rw [h] at this
  exact this
theorem gN_rng1 {s : Nat} {x x' : Sta} {n : Int} (h : gN s x = (n, x')) (hb : ByL x.1) : 0 ≤ n ∧ n < powB s := by
  have := gN_rng (s := s) hb
  rw [h] at this
  exact this
/-- what reading a change leaves -/
def RdMod (w0 : World) (b : Nat) (w : World) (u : Mu) (st : Sta) (e : Ending) (w' : World) : Prop := ∃ m : Mm, e = .returned (.agg (mca m)) ∧ m.u = u ∧ KOwns KA w.heap.size (.slice m.q m.n m.c) m.u.acts w' ∧ RdS w0 b st w' ∧ RStep b w w'
/-- what reading a rule leaves -/
def RdRule (w0 : World) (b : Nat) (w : World) (u : Ru) (st : Sta) (e : Ending) (w' : World) : Prop := ∃ r : Rm, e = .returned (.agg (rca r)) ∧ r.u = u ∧ OwnA w.heap.size r w' ∧ RdS w0 b st w' ∧ RStep b w w'

set_option maxHeartbeats 4000000 in
theorem rmod_read (w0 : World) (b : Nat) (x0 : Sta) (w : World) (hs0 : RdS w0 b x0 w) :
    Calls Tryd.prog 59 #[.pointer (some ⟨b, 0, none⟩)] w (RdMod w0 b w (gMod chkP x0).1.1 (gMod chkP x0).2) := by
  obtain ⟨⟨k, x1⟩, h0⟩ : ∃ y, gN 1 x0 = y := ⟨_, rfl⟩
  obtain ⟨⟨c, x2⟩, h1⟩ : ∃ y, gNs (List.replicate 24 8) x1 = y := ⟨_, rfl⟩
  obtain ⟨⟨p, x3⟩, h2⟩ : ∃ y, gN 2 x2 = y := ⟨_, rfl⟩
  obtain ⟨⟨i, x4⟩, h3⟩ : ∃ y, gN 4 x3 = y := ⟨_, rfl⟩
  obtain ⟨⟨h, x5⟩, h4⟩ : ∃ y, gN 4 x4 = y := ⟨_, rfl⟩
  obtain ⟨⟨o, x6⟩, h5⟩ : ∃ y, gN 1 x5 = y := ⟨_, rfl⟩
  obtain ⟨⟨q, x7⟩, h6⟩ : ∃ y, gN 1 x6 = y := ⟨_, rfl⟩
  obtain ⟨⟨ac, x8⟩, h7⟩ : ∃ y, gActs x7 = y := ⟨_, rfl⟩
  have b1 := gN_byte1 h0 hs0.byte
  have b2 := gNs_byte1 h1 b1
  have b3 := gN_byte1 h2 b2
  have b4 := gN_byte1 h3 b3
  have b5 := gN_byte1 h4 b4
  have b6 := gN_byte1 h5 b5
  have hq := gN_rng1 h6 b6
  clear b1 b2 b3 b4 b5 b6
  have HQ := Lib.hid (ne_pos hq.1)
  rw [gMod_parts chkP x0 h0 h1 h2 h3 h4 h5 h6 h7]
  have E0 := Lib.hid h0
  have E1 := Lib.hid h1
  have E2 := Lib.hid h2
  have E3 := Lib.hid h3
  have E4 := Lib.hid h4
  have E5 := Lib.hid h5
  have E6 := Lib.hid h6
  have E7 := Lib.hid h7
  have HS0 := Lib.hid (hs0.alloc (.cells #[Value.int IntKind.i64 0, Value.int IntKind.u64 0, Value.int IntKind.u64 0, Value.int IntKind.u64 0, Value.int IntKind.u64 0, Value.int IntKind.u64 0, Value.int IntKind.u64 0, Value.int IntKind.u64 0, Value.int IntKind.u64 0, Value.int IntKind.u64 0, Value.int IntKind.u64 0, Value.int IntKind.u64 0, Value.int IntKind.u64 0, Value.int IntKind.u64 0, Value.int IntKind.u64 0, Value.int IntKind.u64 0, Value.int IntKind.u64 0, Value.int IntKind.u64 0, Value.int IntKind.u64 0, Value.int IntKind.u64 0, Value.int IntKind.u64 0, Value.int IntKind.u64 0, Value.int IntKind.u64 0, Value.int IntKind.u64 0, Value.int IntKind.u64 0, Value.int IntKind.i64 0, Value.slice none 0 0, Value.int IntKind.i64 0, Value.int IntKind.i64 0, Value.int IntKind.i64 0, Value.bool false] 30))
  have HT0 := Lib.hid (RStep.alloc hs0 (.cells #[Value.int IntKind.i64 0, Value.int IntKind.u64 0, Value.int IntKind.u64 0, Value.int IntKind.u64 0, Value.int IntKind.u64 0, Value.int IntKind.u64 0, Value.int IntKind.u64 0, Value.int IntKind.u64 0, Value.int IntKind.u64 0, Value.int IntKind.u64 0, Value.int IntKind.u64 0, Value.int IntKind.u64 0, Value.int IntKind.u64 0, Value.int IntKind.u64 0, Value.int IntKind.u64 0, Value.int IntKind.u64 0, Value.int IntKind.u64 0, Value.int IntKind.u64 0, Value.int IntKind.u64 0, Value.int IntKind.u64 0, Value.int IntKind.u64 0, Value.int IntKind.u64 0, Value.int IntKind.u64 0, Value.int IntKind.u64 0, Value.int IntKind.u64 0, Value.int IntKind.i64 0, Value.slice none 0 0, Value.int IntKind.i64 0, Value.int IntKind.i64 0, Value.int IntKind.i64 0, Value.bool false] 30))
  have R0 := Lib.hid (Blk.new w #[Value.int IntKind.i64 0, Value.int IntKind.u64 0, Value.int IntKind.u64 0, Value.int IntKind.u64 0, Value.int IntKind.u64 0, Value.int IntKind.u64 0, Value.int IntKind.u64 0, Value.int IntKind.u64 0, Value.int IntKind.u64 0, Value.int IntKind.u64 0, Value.int IntKind.u64 0, Value.int IntKind.u64 0, Value.int IntKind.u64 0, Value.int IntKind.u64 0, Value.int IntKind.u64 0, Value.int IntKind.u64 0, Value.int IntKind.u64 0, Value.int IntKind.u64 0, Value.int IntKind.u64 0, Value.int IntKind.u64 0, Value.int IntKind.u64 0, Value.int IntKind.u64 0, Value.int IntKind.u64 0, Value.int IntKind.u64 0, Value.int IntKind.u64 0, Value.int IntKind.i64 0, Value.slice none 0 0, Value.int IntKind.i64 0, Value.int IntKind.i64 0, Value.int IntKind.i64 0, Value.bool false] 30)
  have HL := Lib.hid (show b < w.heap.size from hs0.lt)
  clear hs0 hq h0 h1 h2 h3 h4 h5 h6 h7
  go_enter Tryd.func59, Tryd.ntmps59
  go_upto_region 1 with fail
  generalize hw : w.alloc (.cells #[Value.int IntKind.i64 0, Value.int IntKind.u64 0, Value.int IntKind.u64 0, Value.int IntKind.u64 0, Value.int IntKind.u64 0, Value.int IntKind.u64 0, Value.int IntKind.u64 0, Value.int IntKind.u64 0, Value.int IntKind.u64 0, Value.int IntKind.u64 0, Value.int IntKind.u64 0, Value.int IntKind.u64 0, Value.int IntKind.u64 0, Value.int IntKind.u64 0, Value.int IntKind.u64 0, Value.int IntKind.u64 0, Value.int IntKind.u64 0, Value.int IntKind.u64 0, Value.int IntKind.u64 0, Value.int IntKind.u64 0, Value.int IntKind.u64 0, Value.int IntKind.u64 0, Value.int IntKind.u64 0, Value.int IntKind.u64 0, Value.int IntKind.u64 0, Value.int IntKind.i64 0, Value.slice none 0 0, Value.int IntKind.i64 0, Value.int IntKind.i64 0, Value.int IntKind.i64 0, Value.bool false] 30) = w0' at *
  clear hw
  have HC0 := Lib.hid (rnumber_small w0 b x0 1 (by decide) w0' HS0.out)
  rw [E0.out] at HC0
  go_wp2_with (go_at_call 58; refine HC0.out.mono ?_; rintro e w1 ⟨rfl, hs, ht⟩; refine Hid.out ?_)
  have HS1 := Lib.hid hs
  have HT1 := Lib.hid (HT0.out.trans ht)
  have R1 := Lib.hid (ht.blk R0.out (by have := HL.out; omega))
  clear hs ht HC0 HS0 HT0 R0
  refine Lib.hid ?_
  have HC1 := Lib.hid (rmatch_any w0 b x1 w1 HS1.out)
  rw [E1.out] at HC1
  go_wp2_with (go_at_call 76; refine HC1.out.mono ?_; rintro e w2 ⟨rfl, hs, ht⟩; refine Hid.out ?_)
  have HS2 := Lib.hid hs
  have HT2 := Lib.hid (HT1.out.trans ht)
  have R2 := Lib.hid (ht.blk R1.out (by have := HL.out; omega))
  clear hs ht HC1 HS1 HT1 R1
  refine Lib.hid ?_
  have HC2 := Lib.hid (rnumber_small w0 b x2 2 (by decide) w2 HS2.out)
  rw [E2.out] at HC2
  go_wp2_with (go_at_call 58; refine HC2.out.mono ?_; rintro e w3 ⟨rfl, hs, ht⟩; refine Hid.out ?_)
  have HS3 := Lib.hid hs
  have HT3 := Lib.hid (HT2.out.trans ht)
  have R3 := Lib.hid (ht.blk R2.out (by have := HL.out; omega))
  clear hs ht HC2 HS2 HT2 R2
  refine Lib.hid ?_
  have HC3 := Lib.hid (rnumber_small w0 b x3 4 (by decide) w3 HS3.out)
  rw [E3.out] at HC3
  go_wp2_with (go_at_call 58; refine HC3.out.mono ?_; rintro e w4 ⟨rfl, hs, ht⟩; refine Hid.out ?_)
  have HS4 := Lib.hid hs
  have HT4 := Lib.hid (HT3.out.trans ht)
  have R4 := Lib.hid (ht.blk R3.out (by have := HL.out; omega))
  clear hs ht HC3 HS3 HT3 R3
  refine Lib.hid ?_
  have HC4 := Lib.hid (rnumber_small w0 b x4 4 (by decide) w4 HS4.out)
  rw [E4.out] at HC4
  go_wp2_with (go_at_call 58; refine HC4.out.mono ?_; rintro e w5 ⟨rfl, hs, ht⟩; refine Hid.out ?_)
  have HS5 := Lib.hid hs
  have HT5 := Lib.hid (HT4.out.trans ht)
  have R5 := Lib.hid (ht.blk R4.out (by have := HL.out; omega))
  clear hs ht HC4 HS4 HT4 R4
  refine Lib.hid ?_
  have HC5 := Lib.hid (rnumber_small w0 b x5 1 (by decide) w5 HS5.out)
  rw [E5.out] at HC5
  go_wp2_with (go_at_call 58; refine HC5.out.mono ?_; rintro e w6 ⟨rfl, hs, ht⟩; refine Hid.out ?_)
  have HS6 := Lib.hid hs
  have HT6 := Lib.hid (HT5.out.trans ht)
  have R6 := Lib.hid (ht.blk R5.out (by have := HL.out; omega))
  clear hs ht HC5 HS5 HT5 R5
  refine Lib.hid ?_
  have HC6 := Lib.hid (rnumber_small w0 b x6 1 (by decide) w6 HS6.out)
  rw [E6.out] at HC6
  go_wp2_with (go_at_call 58; refine HC6.out.mono ?_; rintro e w7 ⟨rfl, hs, ht⟩; refine Hid.out ?_)
  have HS7 := Lib.hid hs
  have HT7 := Lib.hid (HT6.out.trans ht)
  have R7 := Lib.hid (ht.blk R6.out (by have := HL.out; omega))
  clear hs ht HC6 HS6 HT6 R6
  refine Lib.hid ?_
  have HC7 := Lib.hid (racts_read w0 b x7 w7 HS7.out)
  rw [E7.out] at HC7
  have hlt7 := Lib.hid R7.out.lt
  go_wp2_with (go_at_call 77; refine HC7.out.mono ?_; rintro e w8 ⟨v, rfl, ho, hs, ht⟩; refine Hid.out ?_)
  obtain ⟨qa, ca, rfl⟩ := ho.form
  have HO := Lib.hid ho
  have HS8 := Lib.hid hs
  have HT8 := Lib.hid (HT7.out.trans ht)
  have R8 := Lib.hid (ht.blk R7.out (by have := HL.out; omega))
  clear ho hs ht HC7 HS7 HT7 R7
  refine Lib.hid ?_
  go_wp2_with (first
    | (refine buildMd rfl _ _ _ _ _ _ _ _ rfl k (cubeOf c 0) p i h o (q != 0) qa ac.length ca ac rfl rfl rfl rfl rfl rfl rfl rfl ?_)
    | (refine wpList_store_row rfl 30 _ _ rfl w.heap.size (mca ⟨⟨k, cubeOf c 0, p, ac, i, h, o, q != 0⟩, qa, ac.length, ca⟩) rfl rfl 30 _ R8.out (by kernel_rfl) rfl (mca_one _) ?_))
  refine bodyPost_ret (v := .agg (mca ⟨⟨k, cubeOf c 0, p, ac, i, h, o, q != 0⟩, qa, ac.length, ca⟩)) ?_ rfl ⟨_, rfl, by rw [HQ.out], KOwns.mono (HO.out.rset hlt7.out) (Nat.le_of_lt hlt7.out), HS8.out.rset HL.out, HT8.out.rset HL.out (Nat.le_refl _)⟩
  exact res_one Tryd.results59 (cs := mca ⟨⟨k, cubeOf c 0, p, ac, i, h, o, q != 0⟩, qa, ac.length, ca⟩) rfl (R8.out.rset _) Tryd.underlying30 rfl (by rw [mca_size]; exact infoM)
end Go.Proofs.YtndgbgolmpoepaaDoor
