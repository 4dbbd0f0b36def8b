/-
  The program's reader: message.
-/
import Derived.Test.YtndgbgolmpoepaaDoorCodRdf
namespace Go.Proofs.YtndgbgolmpoepaaDoor
set_option maxRecDepth 20000
open Go.RowKit

theorem OwnRs.nil (B : Nat) (W : World) : OwnRs B (.slice none 0 0) [] W := ⟨KOwns.nil _ _, fun y hy => (by cases hy)⟩
theorem OwnRs.mono {B B' : Nat} {v : Value} {L : List Rm} {W : World} (h : OwnRs B v L W) (hb : B' ≤ B) : OwnRs B' v L W := ⟨KOwns.mono h.1 hb, fun y hy => OwnA.mono (h.2 y hy) hb⟩
/-- what a message names is of one's own -/
def OwnG (B : Nat) (g : Gm) (W : World) : Prop := KOwns KA B (.slice g.mod.q g.mod.n g.mod.c) g.mod.u.acts W ∧ OwnRs B (.slice g.q g.n g.c) g.rs W
theorem OwnG.inG {B : Nat} {g : Gm} {W : World} (h : OwnG B g W) : InG g W := ⟨h.1.lies okA, h.2.lies⟩
theorem OwnG.below {B : Nat} {g : Gm} {W W' : World} (h : OwnG B g W) (hb : Below W.heap.size W W') : OwnG B g W' := ⟨h.1.below hb, h.2.1.below hb, fun y hy => (h.2.2 y hy).below hb⟩
theorem OwnG.rset {B k : Nat} {g : Gm} {W : World} {cs : Array Value} (h : OwnG B g W) (hk : k < B) : OwnG B g (W.setRow k cs) := ⟨h.1.rset hk, h.2.1.rset hk, fun y hy => KOwns.rset (h.2.2 y hy) hk⟩
/-- what reading a message leaves -/
def RdMsg (w0 : World) (b : Nat) (w : World) (u : Ms) (st : Sta) (e : Ending) (w' : World) : Prop := ∃ g : Gm, e = .returned (.agg (gca g)) ∧ g.u = u ∧ OwnG w.heap.size g w' ∧ RdS w0 b st w' ∧ RStep b w w'
theorem zGca : (#[Value.int IntKind.i64 0, Value.int IntKind.i64 0, Value.int IntKind.i64 0, Value.int IntKind.i64 0, Value.int IntKind.u64 0, Value.int IntKind.u64 0, Value.int IntKind.u64 0, Value.int IntKind.u64 0, Value.int IntKind.u64 0, Value.int IntKind.u64 0, Value.int IntKind.u64 0, Value.int IntKind.u64 0, Value.int IntKind.u64 0, Value.int IntKind.u64 0, Value.int IntKind.u64 0, Value.int IntKind.u64 0, Value.int IntKind.u64 0, Value.int IntKind.u64 0, Value.int IntKind.u64 0, Value.int IntKind.u64 0, Value.int IntKind.u64 0, Value.int IntKind.u64 0, Value.int IntKind.u64 0, Value.int IntKind.u64 0, Value.int IntKind.u64 0, Value.int IntKind.u64 0, Value.int IntKind.u64 0, Value.int IntKind.u64 0, Value.int IntKind.i64 0, Value.slice none 0 0, Value.int IntKind.i64 0, Value.int IntKind.i64 0, Value.int IntKind.i64 0, Value.bool false, Value.int IntKind.i64 0, Value.int IntKind.u64 0, Value.int IntKind.u64 0, Value.int IntKind.u64 0, Value.int IntKind.u64 0, Value.int IntKind.u64 0, Value.int IntKind.u64 0, Value.int IntKind.u64 0, Value.int IntKind.u64 0, Value.int IntKind.u64 0, Value.int IntKind.u64 0, Value.int IntKind.u64 0, Value.int IntKind.u64 0, Value.slice none 0 0] : Array Value) = gca zGm := by kernel_rfl
def g2 (k t : Int) : Gm := ⟨k, t, 0, zMm, 0, zHd, none, 0, 0, []⟩
theorem builtG (k t : Int) : Tryd.prog.built 33 [(0, .int .i64 k), (1, .int .i64 t)] = some (gca (g2 k t)) := by kernel_rfl
theorem buildG {ops : Array Oper} {rest : List Oper} {o : Oper} {a : Act} {w : World} {Q : Exit → Act → World → Prop} (hg : o.guard = none) (x0 x1 : Operand) (ho : o.op = .build 33 #[(0, x0), (1, x1)]) (k t : Int) (h0 : a.eval x0 = .int .i64 k) (h1 : a.eval x1 = .int .i64 t)
    (h : wpList Tryd.prog ops Q rest (a.put o.dst (.agg (gca (g2 k t)))) w) : wpList Tryd.prog ops Q (o :: rest) a w := by
  have e : ((#[(0, x0), (1, x1)] : Array (Nat × Operand)).map fun (p : Nat × Operand) => (p.1, a.eval p.2)).toList = [(0, .int .i64 k), (1, .int .i64 t)] := by simp [h0, h1]
  have e' := congrArg (Tryd.prog.built 33) e
  rw [builtG] at e'
  refine wpList_build hg 33 _ ho (by rw [e']; rfl) ?_
  rw [e']
  exact h
theorem g2Mod (k t : Int) (m : Mm) : stM (gca (g2 k t)) 3 (mcl m) = gca ⟨k, t, 0, m, 0, zHd, none, 0, 0, []⟩ := by kernel_rfl
theorem g2Err (k t e : Int) : (gca (g2 k t)).setIfInBounds 2 (.int .i64 e) = gca ⟨k, t, e, zMm, 0, zHd, none, 0, 0, []⟩ := by kernel_rfl
theorem g2Port (k t p : Int) : (gca (g2 k t)).setIfInBounds 34 (.int .i64 p) = gca ⟨k, t, 0, zMm, p, zHd, none, 0, 0, []⟩ := by kernel_rfl
theorem g2Head (k t p : Int) (h : Nat → Int) : stM (gca ⟨k, t, 0, zMm, p, zHd, none, 0, 0, []⟩) 35 (hl h) = gca ⟨k, t, 0, zMm, p, h, none, 0, 0, []⟩ := by kernel_rfl
theorem g2Rules (k t : Int) (q : Option Addr) (n c : Nat) (rs : List Rm) : (gca (g2 k t)).setIfInBounds 47 (.slice q n c) = gca ⟨k, t, 0, zMm, 0, zHd, q, n, c, rs⟩ := by kernel_rfl
theorem hl_headOf (p : Int) (l : List Int) : hl (nthI l) = hl (headOf (p :: l) 1) := rfl
theorem gMs_parts (f : Int → Bool) {x x1 x2 : Sta} {k t : Int} (h0 : gN 1 x = (k, x1)) (h1 : gN 4 x1 = (t, x2)) : gMs f x = gBody f k t x2 := by
  have e : gNs [1, 4] x = ([k, t], x2) := by
    simp only [gNs]
    rw [h0, h1]
  unfold gMs
  rw [e]
  rfl
section
variable {w0 w W : World} {b B3 : Nat} {k t : Int} {x : Sta}
/-- while a message is read: the result's box, the message's -/
def MgS (w0 : World) (b : Nat) (w : World) (B3 : Nat) (g : Gm) (x : Sta) (W : World) : Prop := RdS w0 b x W ∧ RStep b w W ∧ Blk w.heap.size #[Value.int IntKind.i64 0, Value.int IntKind.i64 0, Value.int IntKind.i64 0, Value.int IntKind.i64 0, Value.int IntKind.u64 0, Value.int IntKind.u64 0, Value.int IntKind.u64 0, Value.int IntKind.u64 0, Value.int IntKind.u64 0, Value.int IntKind.u64 0, Value.int IntKind.u64 0, Value.int IntKind.u64 0, Value.int IntKind.u64 0, Value.int IntKind.u64 0, Value.int IntKind.u64 0, Value.int IntKind.u64 0, Value.int IntKind.u64 0, Value.int IntKind.u64 0, Value.int IntKind.u64 0, Value.int IntKind.u64 0, Value.int IntKind.u64 0, Value.int IntKind.u64 0, Value.int IntKind.u64 0, Value.int IntKind.u64 0, Value.int IntKind.u64 0, Value.int IntKind.u64 0, Value.int IntKind.u64 0, Value.int IntKind.u64 0, Value.int IntKind.i64 0, Value.slice none 0 0, Value.int IntKind.i64 0, Value.int IntKind.i64 0, Value.int IntKind.i64 0, Value.bool false, Value.int IntKind.i64 0, Value.int IntKind.u64 0, Value.int IntKind.u64 0, Value.int IntKind.u64 0, Value.int IntKind.u64 0, Value.int IntKind.u64 0, Value.int IntKind.u64 0, Value.int IntKind.u64 0, Value.int IntKind.u64 0, Value.int IntKind.u64 0, Value.int IntKind.u64 0, Value.int IntKind.u64 0, Value.int IntKind.u64 0, Value.slice none 0 0] 33 W ∧ Blk B3 (gca g) 33 W ∧ b < w.heap.size ∧ w.heap.size < B3
theorem MgS.step {g : Gm} {x' : Sta} {W' : World} (h : MgS w0 b w B3 g x W) (hs : RdS w0 b x' W') (ht : RStep b W W') : MgS w0 b w B3 g x' W' :=
  ⟨hs, h.2.1.trans ht, ht.blk h.2.2.1 (by have := h.2.2.2.2.1; omega), ht.blk h.2.2.2.1 (by have := h.2.2.2.2; omega), h.2.2.2.2⟩
theorem MgS.cell {g g' : Gm} (h : MgS w0 b w B3 g x W) {j : Nat} {v : Value} (e : (gca g).setIfInBounds j v = gca g') : MgS w0 b w B3 g' x (W.setCell ⟨B3, j, none⟩ v) :=
  ⟨h.1.cset (by have := h.2.2.2.2; omega), h.2.1.cset h.2.2.2.2.1 (by have := h.2.2.2.2; omega), h.2.2.1.cother (g := B3) (k := j) (by have := h.2.2.2.2; omega) v, Blk.oneTo h.2.2.2.1 e, h.2.2.2.2⟩
theorem MgS.mid {g g' : Gm} (h : MgS w0 b w B3 g x W) {j : Nat} {vs : List Value} (e : stM (gca g) j vs = gca g') : MgS w0 b w B3 g' x (W.setCells B3 j vs) :=
  ⟨h.1.mset (by have := h.2.2.2.2; omega), h.2.1.mset h.2.2.2.2.1 (by have := h.2.2.2.2; omega), (heap_stM_other (by have := h.2.2.2.2; omega) _ _ _).trans h.2.2.1, e ▸ heap_stM _ _ _ _ h.2.2.2.1, h.2.2.2.2⟩
end
theorem KOwns.mset {α : Type} {K : Kd α} {B g k : Nat} {v : Value} {vs : List Value} {l : List α} {W : World} (h : KOwns K B v l W) (hg : g < B) : KOwns K B v l (W.setCells g k vs) := h.other fun j hj _ => heap_stM_other (by omega) _ _ _
set_option maxHeartbeats 8000000 in
theorem rmsg_read (w0 : World) (b : Nat) (x0 : Sta) (w : World) (hs0 : RdS w0 b x0 w) :
    Calls Tryd.prog 30 #[.pointer (some ⟨b, 0, none⟩)] w (RdMsg w0 b w (gMs chkP x0).1.1 (gMs chkP x0).2) := by
  obtain ⟨⟨k, x1⟩, h0⟩ : ∃ y, gN 1 x0 = y := ⟨_, rfl⟩
  obtain ⟨⟨t, x2⟩, h1⟩ : ∃ y, gN 4 x1 = y := ⟨_, rfl⟩
  rw [gMs_parts chkP h0 h1]
  have HC0 := Lib.hid (rnumber_small w0 b x0 1 (by decide) _ (hs0.alloc (.cells #[Value.int IntKind.i64 0, Value.int IntKind.i64 0, Value.int IntKind.i64 0, Value.int IntKind.i64 0, Value.int IntKind.u64 0, Value.int IntKind.u64 0, Value.int IntKind.u64 0, Value.int IntKind.u64 0, Value.int IntKind.u64 0, Value.int IntKind.u64 0, Value.int IntKind.u64 0, Value.int IntKind.u64 0, Value.int IntKind.u64 0, Value.int IntKind.u64 0, Value.int IntKind.u64 0, Value.int IntKind.u64 0, Value.int IntKind.u64 0, Value.int IntKind.u64 0, Value.int IntKind.u64 0, Value.int IntKind.u64 0, Value.int IntKind.u64 0, Value.int IntKind.u64 0, Value.int IntKind.u64 0, Value.int IntKind.u64 0, Value.int IntKind.u64 0, Value.int IntKind.u64 0, Value.int IntKind.u64 0, Value.int IntKind.u64 0, Value.int IntKind.i64 0, Value.slice none 0 0, Value.int IntKind.i64 0, Value.int IntKind.i64 0, Value.int IntKind.i64 0, Value.bool false, Value.int IntKind.i64 0, Value.int IntKind.u64 0, Value.int IntKind.u64 0, Value.int IntKind.u64 0, Value.int IntKind.u64 0, Value.int IntKind.u64 0, Value.int IntKind.u64 0, Value.int IntKind.u64 0, Value.int IntKind.u64 0, Value.int IntKind.u64 0, Value.int IntKind.u64 0, Value.int IntKind.u64 0, Value.int IntKind.u64 0, Value.slice none 0 0] 33)))
  rw [h0] at HC0
  have H1 := Lib.hid h1
  have HT0 := Lib.hid (RStep.alloc hs0 (.cells #[Value.int IntKind.i64 0, Value.int IntKind.i64 0, Value.int IntKind.i64 0, Value.int IntKind.i64 0, Value.int IntKind.u64 0, Value.int IntKind.u64 0, Value.int IntKind.u64 0, Value.int IntKind.u64 0, Value.int IntKind.u64 0, Value.int IntKind.u64 0, Value.int IntKind.u64 0, Value.int IntKind.u64 0, Value.int IntKind.u64 0, Value.int IntKind.u64 0, Value.int IntKind.u64 0, Value.int IntKind.u64 0, Value.int IntKind.u64 0, Value.int IntKind.u64 0, Value.int IntKind.u64 0, Value.int IntKind.u64 0, Value.int IntKind.u64 0, Value.int IntKind.u64 0, Value.int IntKind.u64 0, Value.int IntKind.u64 0, Value.int IntKind.u64 0, Value.int IntKind.u64 0, Value.int IntKind.u64 0, Value.int IntKind.u64 0, Value.int IntKind.i64 0, Value.slice none 0 0, Value.int IntKind.i64 0, Value.int IntKind.i64 0, Value.int IntKind.i64 0, Value.bool false, Value.int IntKind.i64 0, Value.int IntKind.u64 0, Value.int IntKind.u64 0, Value.int IntKind.u64 0, Value.int IntKind.u64 0, Value.int IntKind.u64 0, Value.int IntKind.u64 0, Value.int IntKind.u64 0, Value.int IntKind.u64 0, Value.int IntKind.u64 0, Value.int IntKind.u64 0, Value.int IntKind.u64 0, Value.int IntKind.u64 0, Value.slice none 0 0] 33))
  have R0 := Lib.hid (Blk.new w #[Value.int IntKind.i64 0, Value.int IntKind.i64 0, Value.int IntKind.i64 0, Value.int IntKind.i64 0, Value.int IntKind.u64 0, Value.int IntKind.u64 0, Value.int IntKind.u64 0, Value.int IntKind.u64 0, Value.int IntKind.u64 0, Value.int IntKind.u64 0, Value.int IntKind.u64 0, Value.int IntKind.u64 0, Value.int IntKind.u64 0, Value.int IntKind.u64 0, Value.int IntKind.u64 0, Value.int IntKind.u64 0, Value.int IntKind.u64 0, Value.int IntKind.u64 0, Value.int IntKind.u64 0, Value.int IntKind.u64 0, Value.int IntKind.u64 0, Value.int IntKind.u64 0, Value.int IntKind.u64 0, Value.int IntKind.u64 0, Value.int IntKind.u64 0, Value.int IntKind.u64 0, Value.int IntKind.u64 0, Value.int IntKind.u64 0, Value.int IntKind.i64 0, Value.slice none 0 0, Value.int IntKind.i64 0, Value.int IntKind.i64 0, Value.int IntKind.i64 0, Value.bool false, Value.int IntKind.i64 0, Value.int IntKind.u64 0, Value.int IntKind.u64 0, Value.int IntKind.u64 0, Value.int IntKind.u64 0, Value.int IntKind.u64 0, Value.int IntKind.u64 0, Value.int IntKind.u64 0, Value.int IntKind.u64 0, Value.int IntKind.u64 0, Value.int IntKind.u64 0, Value.int IntKind.u64 0, Value.int IntKind.u64 0, Value.slice none 0 0] 33)
  have HL := Lib.hid (show b < w.heap.size from hs0.lt)
  obtain ⟨Y, hY⟩ : ∃ Y, Y = gBody chkP k t x2 := ⟨_, rfl⟩
  rw [← hY]
  have HY := Lib.hid hY
  clear hs0 h0 h1 hY
  go_enter Tryd.func30, Tryd.ntmps30
  go_upto_region 1 with fail
  generalize hw : w.alloc (.cells #[Value.int IntKind.i64 0, Value.int IntKind.i64 0, Value.int IntKind.i64 0, Value.int IntKind.i64 0, Value.int IntKind.u64 0, Value.int IntKind.u64 0, Value.int IntKind.u64 0, Value.int IntKind.u64 0, Value.int IntKind.u64 0, Value.int IntKind.u64 0, Value.int IntKind.u64 0, Value.int IntKind.u64 0, Value.int IntKind.u64 0, Value.int IntKind.u64 0, Value.int IntKind.u64 0, Value.int IntKind.u64 0, Value.int IntKind.u64 0, Value.int IntKind.u64 0, Value.int IntKind.u64 0, Value.int IntKind.u64 0, Value.int IntKind.u64 0, Value.int IntKind.u64 0, Value.int IntKind.u64 0, Value.int IntKind.u64 0, Value.int IntKind.u64 0, Value.int IntKind.u64 0, Value.int IntKind.u64 0, Value.int IntKind.u64 0, Value.int IntKind.i64 0, Value.slice none 0 0, Value.int IntKind.i64 0, Value.int IntKind.i64 0, Value.int IntKind.i64 0, Value.bool false, Value.int IntKind.i64 0, Value.int IntKind.u64 0, Value.int IntKind.u64 0, Value.int IntKind.u64 0, Value.int IntKind.u64 0, Value.int IntKind.u64 0, Value.int IntKind.u64 0, Value.int IntKind.u64 0, Value.int IntKind.u64 0, Value.int IntKind.u64 0, Value.int IntKind.u64 0, Value.int IntKind.u64 0, Value.int IntKind.u64 0, Value.slice none 0 0] 33) = W0 at *
  clear hw
  go_wp2_with (go_at_call 58; refine HC0.out.mono ?_; rintro e W1 ⟨rfl, hs, ht⟩; refine Hid.out ?_)
  have HC1 := Lib.hid (rnumber_small w0 b x1 4 (by decide) W1 hs)
  rw [H1.out] at HC1
  have HT1 := Lib.hid (HT0.out.trans ht)
  have R1 := Lib.hid (ht.blk R0.out (by have := HL.out; omega))
  clear hs ht HC0 HT0 R0
  refine Lib.hid ?_
  go_wp2_with (go_at_call 58; refine HC1.out.mono ?_; rintro e W2 ⟨rfl, hs, ht⟩; refine Hid.out ?_)
  have HS2 := Lib.hid hs
  have HT2 := Lib.hid (HT1.out.trans ht)
  have R2 := Lib.hid (ht.blk R1.out (by have := HL.out; omega))
  clear hs ht HC1 HT1 R1
  refine Lib.hid ?_
  go_upto_region 2 with (first
    | (refine buildG rfl _ _ rfl k t rfl rfl ?_)
    | (refine wpList_store_row rfl 33 _ _ rfl W2.heap.size (gca (g2 k t)) rfl rfl 33 _ (heap_alloc_new _ _) (by kernel_rfl) rfl (gca_one _) ?_; rw [World.setRow_alloc_new]))
  have HM := Lib.hid (show MgS w0 b w W2.heap.size (g2 k t) x2 (W2.alloc (.cells (gca (g2 k t)) 33)) from ⟨HS2.out.alloc _, HT2.out.trans (RStep.alloc HS2.out _), R2.out.old _, Blk.new _ _ _, HL.out, R2.out.lt⟩)
  clear HS2 HT2 R2
  generalize W2.alloc (.cells (gca (g2 k t)) 33) = W3 at *
  generalize W2.heap.size = B3 at *
  have k0 : W3.cell? ⟨B3, 0, none⟩ = some (.int .i64 k) := HM.out.2.2.2.1.cellsG.kind
  by_cases e1 : k = 1
  · subst e1
    have HY := Lib.hid (show Y = (((⟨1, t, 0, (gMod chkP x2).1.1, 0, zHd, []⟩ : Ms), (gMod chkP x2).1.2), (gMod chkP x2).2) from HY.out)
    have HC := Lib.hid (rmod_read w0 b x2 W3 HM.out.1)
    generalize gMod chkP x2 = y at *
    obtain ⟨⟨mu, od⟩, x3⟩ := y
    simp only at HY HC
    go_wp2_with (go_at_call 59; refine HC.out.mono ?_; rintro e W4 ⟨m, rfl, hmu, ho, hs, ht⟩; refine Hid.out ?_)
    have HM4 := Lib.hid (HM.out.step hs ht)
    have HO := Lib.hid ho
    have HB := Lib.hid (show B3 < W3.heap.size from HM.out.2.2.2.1.lt)
    have HU := Lib.hid hmu
    clear hs ht ho hmu HM HC k0
    refine Lib.hid ?_
    go_wp2_with (refine wpList_store_mid rfl 30 _ _ rfl B3 3 (mca m) rfl rfl (by rw [mca_size]; exact HM4.out.2.2.2.1.there (by rw [gca_size]; decide)) (by rw [mca_size]; exact infoM) (mca_one _) ?_; refine Hid.out ?_)
    have HM5 := Lib.hid (show MgS w0 b w B3 ⟨1, t, 0, m, 0, zHd, none, 0, 0, []⟩ x3 (W4.setCells B3 3 (mca m).toList) from HM4.out.mid (g2Mod 1 t m))
    have HO5 := Lib.hid (show KOwns KA W3.heap.size (.slice m.q m.n m.c) m.u.acts (W4.setCells B3 3 (mca m).toList) from HO.out.mset HB.out)
    clear HM4 HO
    generalize W4.setCells B3 3 (mca m).toList = W5 at *
    refine Lib.hid ?_
    go_wp2_with (first
      | (refine wpList_load_row rfl 33 _ rfl B3 rfl 33 (gca ⟨1, t, 0, m, 0, zHd, none, 0, 0, []⟩) (0, 0) _ HM5.out.2.2.2.1 Tryd.underlying33 rfl (by rw [gca_size]; exact infoG) ?_)
      | (refine wpList_store_row rfl 33 _ _ rfl w.heap.size (gca ⟨1, t, 0, m, 0, zHd, none, 0, 0, []⟩) rfl rfl 33 _ HM5.out.2.2.1 (by kernel_rfl) rfl (gca_one _) ?_))
    refine bodyPost_ret (v := .agg (gca ⟨1, t, 0, m, 0, zHd, none, 0, 0, []⟩)) ?_ rfl ⟨_, rfl, by rw [HY.out, ← HU.out]; rfl, ⟨KOwns.mono (HO5.out.rset (by have := HM5.out.2.2.2.2; have := HB.out; omega)) (by have := HM5.out.2.2.2.2; have := HB.out; omega), OwnRs.nil _ _⟩, by rw [HY.out]; exact HM5.out.1.rset HL.out, HM5.out.2.1.rset HL.out (Nat.le_refl _)⟩
    exact res_one Tryd.results30 (cs := gca ⟨1, t, 0, m, 0, zHd, none, 0, 0, []⟩) rfl (HM5.out.2.2.1.rset _) Tryd.underlying33 rfl (by rw [gca_size]; exact infoG)
  have f1 := eq_false0 e1
  by_cases e6 : k = 6
  · subst e6
    have HY := Lib.hid (show Y = (((⟨6, t, (gN 1 x2).1, zMu, 0, zHd, []⟩ : Ms), false), (gN 1 x2).2) from HY.out)
    have HC := Lib.hid (rnumber_small w0 b x2 1 (by decide) W3 HM.out.1)
    generalize gN 1 x2 = y at *
    obtain ⟨n, x3⟩ := y
    simp only at HY HC
    go_wp2_with (go_at_call 58; refine HC.out.mono ?_; rintro e W4 ⟨rfl, hs, ht⟩; refine Hid.out ?_)
    have HM4 := Lib.hid (HM.out.step hs ht)
    clear hs ht HM HC k0
    refine Lib.hid ?_
    go_wp2_with (refine storeCell rfl 22 _ _ rfl B3 2 (.int .i64 n) rfl rfl rfl (HM4.out.2.2.2.1.there (by rw [gca_size]; decide)) infoErr ?_; refine Hid.out ?_)
    have HM5 := Lib.hid (HM4.out.cell (g2Err 6 t n))
    clear HM4
    generalize W4.setCell ⟨B3, 2, none⟩ (.int .i64 n) = W5 at *
    refine Lib.hid ?_
    go_wp2_with (first
      | (refine wpList_load_row rfl 33 _ rfl B3 rfl 33 (gca ⟨6, t, n, zMm, 0, zHd, none, 0, 0, []⟩) (0, 0) _ HM5.out.2.2.2.1 Tryd.underlying33 rfl (by rw [gca_size]; exact infoG) ?_)
      | (refine wpList_store_row rfl 33 _ _ rfl w.heap.size (gca ⟨6, t, n, zMm, 0, zHd, none, 0, 0, []⟩) rfl rfl 33 _ HM5.out.2.2.1 (by kernel_rfl) rfl (gca_one _) ?_))
    refine bodyPost_ret (v := .agg (gca ⟨6, t, n, zMm, 0, zHd, none, 0, 0, []⟩)) ?_ rfl ⟨_, rfl, by rw [HY.out]; rfl, ⟨KOwns.nil _ _, OwnRs.nil _ _⟩, by rw [HY.out]; exact HM5.out.1.rset HL.out, HM5.out.2.1.rset HL.out (Nat.le_refl _)⟩
    exact res_one Tryd.results30 (cs := gca ⟨6, t, n, zMm, 0, zHd, none, 0, 0, []⟩) rfl (HM5.out.2.2.1.rset _) Tryd.underlying33 rfl (by rw [gca_size]; exact infoG)
  have f6 := eq_false0 e6
  by_cases e8 : k = 8
  · subst e8
    have HC := Lib.hid (rnumber_small w0 b x2 1 (by decide) W3 HM.out.1)
    obtain ⟨⟨n, x3⟩, h3⟩ : ∃ y, gN 1 x2 = y := ⟨_, rfl⟩
    obtain ⟨⟨l, x4⟩, h4⟩ : ∃ y, gNs (List.replicate 12 8) x3 = y := ⟨_, rfl⟩
    have hg : gNs headS x2 = (n :: l, x4) := by
      unfold headS
      rw [gNs, h3]
      simp only
      rw [h4]
    have HY := Lib.hid (show Y = (((⟨8, t, 0, zMu, n, headOf (n :: l) 1, []⟩ : Ms), false), x4) by
      have e : Y = (((⟨8, t, 0, zMu, nthI (gNs headS x2).1 0, headOf (gNs headS x2).1 1, []⟩ : Ms), false), (gNs headS x2).2) := HY.out
      rw [hg] at e
      exact e)
    rw [h3] at HC
    have H4 := Lib.hid h4
    clear h3 h4 hg
    go_wp2_with (go_at_call 58; refine HC.out.mono ?_; rintro e W4 ⟨rfl, hs, ht⟩; refine Hid.out ?_)
    have HM4 := Lib.hid (HM.out.step hs ht)
    clear hs ht HM HC k0
    refine Lib.hid ?_
    go_wp2_with (refine storeCell rfl 3 _ _ rfl B3 34 (.int .i64 n) rfl rfl rfl (HM4.out.2.2.2.1.there (by rw [gca_size]; decide)) infoInt ?_; refine Hid.out ?_)
    have HM5 := Lib.hid (HM4.out.cell (g2Port 8 t n))
    clear HM4
    generalize W4.setCell ⟨B3, 34, none⟩ (.int .i64 n) = W5 at *
    have HC5 := Lib.hid (rhead_any' w0 b x3 W5 HM5.out.1)
    rw [H4.out] at HC5
    refine Lib.hid ?_
    go_wp2_with (go_at_call 60; refine HC5.out.mono ?_; rintro e W6 ⟨rfl, hs, ht⟩; refine Hid.out ?_)
    have HM6 := Lib.hid (HM5.out.step hs ht)
    clear hs ht HM5 HC5
    refine Lib.hid ?_
    go_wp2_with (refine wpList_store_mid rfl 25 _ _ rfl B3 35 (hc (nthI l)) rfl rfl (HM6.out.2.2.2.1.there (by rw [gca_size, hc_size]; decide)) infoHead (hc_one _) ?_; refine Hid.out ?_)
    have HM7 := Lib.hid (show MgS w0 b w B3 ⟨8, t, 0, zMm, n, headOf (n :: l) 1, none, 0, 0, []⟩ x4 (W6.setCells B3 35 (hc (nthI l)).toList) from HM6.out.mid (vs := (hc (nthI l)).toList) (by
      show stM (gca ⟨8, t, 0, zMm, n, zHd, none, 0, 0, []⟩) 35 (hl (nthI l)) = _
      rw [hl_headOf n l]
      exact g2Head 8 t n _))
    obtain ⟨hd, hhd⟩ : ∃ hd, hd = headOf (n :: l) 1 := ⟨_, rfl⟩
    rw [← hhd] at HM7 HY
    clear HM6 hhd
    generalize W6.setCells B3 35 (hc (nthI l)).toList = W7 at *
    refine Lib.hid ?_
    go_wp2_with (first
      | (refine wpList_load_row rfl 33 _ rfl B3 rfl 33 (gca ⟨8, t, 0, zMm, n, hd, none, 0, 0, []⟩) (0, 0) _ HM7.out.2.2.2.1 Tryd.underlying33 rfl (by rw [gca_size]; exact infoG) ?_)
      | (refine wpList_store_row rfl 33 _ _ rfl w.heap.size (gca ⟨8, t, 0, zMm, n, hd, none, 0, 0, []⟩) rfl rfl 33 _ HM7.out.2.2.1 (by kernel_rfl) rfl (gca_one _) ?_))
    refine bodyPost_ret (v := .agg (gca ⟨8, t, 0, zMm, n, hd, none, 0, 0, []⟩)) ?_ rfl ⟨_, rfl, by rw [HY.out]; rfl, ⟨KOwns.nil _ _, OwnRs.nil _ _⟩, by rw [HY.out]; exact HM7.out.1.rset HL.out, HM7.out.2.1.rset HL.out (Nat.le_refl _)⟩
    exact res_one Tryd.results30 (cs := gca ⟨8, t, 0, zMm, n, hd, none, 0, 0, []⟩) rfl (HM7.out.2.2.1.rset _) Tryd.underlying33 rfl (by rw [gca_size]; exact infoG)
  have f8 := eq_false0 e8
  by_cases e9 : k = 9 ∨ k = 10
  · have HY := Lib.hid (show Y = (((⟨k, t, 0, zMu, 0, zHd, (gRules x2).1⟩ : Ms), false), (gRules x2).2) by
      have e := HY.out
      unfold gBody at e
      rw [if_neg e1, if_neg e6, if_neg e8, if_pos e9] at e
      exact e)
    have HC := Lib.hid (rrules_read w0 b x2 W3 HM.out.1)
    generalize gRules x2 = y at *
    obtain ⟨us, x3⟩ := y
    simp only at HY HC
    have f9 : (k == 9) = true ∨ ((k == 9) = false ∧ (k == 10) = true) := by
      rcases e9 with h | h
      · exact .inl (by simpa using h)
      · exact .inr ⟨by rw [h]; rfl, by simpa using h⟩
    rcases f9 with f9 | ⟨f9, f10⟩
    · clear e1 e6 e8 e9
      go_wp2_with (go_at_call 61; refine HC.out.mono ?_; rintro e W4 ⟨v, L, rfl, hu, ho, hs, ht⟩; refine Hid.out ?_)
      obtain ⟨q, c, rfl⟩ := ho.1.form
      have HM4 := Lib.hid (HM.out.step hs ht)
      have HO := Lib.hid ho
      have HB := Lib.hid (show B3 < W3.heap.size from HM.out.2.2.2.1.lt)
      have HU := Lib.hid hu
      clear hs ht ho hu HM HC k0
      refine Lib.hid ?_
      go_wp2_with (refine storeCell rfl 31 _ _ rfl B3 47 (.slice q L.length c) rfl rfl rfl (HM4.out.2.2.2.1.there (by rw [gca_size]; decide)) infoRs ?_; refine Hid.out ?_)
      have HM5 := Lib.hid (HM4.out.cell (g2Rules k t q L.length c L))
      have HO5 := Lib.hid (show OwnRs W3.heap.size (.slice q L.length c) L (W4.setCell ⟨B3, 47, none⟩ (.slice q L.length c)) from ⟨HO.out.1.cset HB.out, fun y hy => KOwns.cset (HO.out.2 y hy) HB.out⟩)
      clear HM4 HO
      generalize W4.setCell ⟨B3, 47, none⟩ (.slice q L.length c) = W5 at *
      refine Lib.hid ?_
      go_wp2_with (first
        | (refine wpList_load_row rfl 33 _ rfl B3 rfl 33 (gca ⟨k, t, 0, zMm, 0, zHd, q, L.length, c, L⟩) (0, 0) _ HM5.out.2.2.2.1 Tryd.underlying33 rfl (by rw [gca_size]; exact infoG) ?_)
        | (refine wpList_store_row rfl 33 _ _ rfl w.heap.size (gca ⟨k, t, 0, zMm, 0, zHd, q, L.length, c, L⟩) rfl rfl 33 _ HM5.out.2.2.1 (by kernel_rfl) rfl (gca_one _) ?_))
      refine bodyPost_ret (v := .agg (gca ⟨k, t, 0, zMm, 0, zHd, q, L.length, c, L⟩)) ?_ rfl ⟨_, rfl, by rw [HY.out, ← HU.out]; rfl, ⟨KOwns.nil _ _, OwnRs.mono ⟨HO5.out.1.rset (by have := HM5.out.2.2.2.2; have := HB.out; omega), fun y hy => KOwns.rset (HO5.out.2 y hy) (by have := HM5.out.2.2.2.2; have := HB.out; omega)⟩ (by have := HM5.out.2.2.2.2; have := HB.out; omega)⟩, by rw [HY.out]; exact HM5.out.1.rset HL.out, HM5.out.2.1.rset HL.out (Nat.le_refl _)⟩
      exact res_one Tryd.results30 (cs := gca ⟨k, t, 0, zMm, 0, zHd, q, L.length, c, L⟩) rfl (HM5.out.2.2.1.rset _) Tryd.underlying33 rfl (by rw [gca_size]; exact infoG)
    · clear e1 e6 e8 e9
      go_wp2_with (go_at_call 61; refine HC.out.mono ?_; rintro e W4 ⟨v, L, rfl, hu, ho, hs, ht⟩; refine Hid.out ?_)
      obtain ⟨q, c, rfl⟩ := ho.1.form
      have HM4 := Lib.hid (HM.out.step hs ht)
      have HO := Lib.hid ho
      have HB := Lib.hid (show B3 < W3.heap.size from HM.out.2.2.2.1.lt)
      have HU := Lib.hid hu
      clear hs ht ho hu HM HC k0
      refine Lib.hid ?_
      go_wp2_with (refine storeCell rfl 31 _ _ rfl B3 47 (.slice q L.length c) rfl rfl rfl (HM4.out.2.2.2.1.there (by rw [gca_size]; decide)) infoRs ?_; refine Hid.out ?_)
      have HM5 := Lib.hid (HM4.out.cell (g2Rules k t q L.length c L))
      have HO5 := Lib.hid (show OwnRs W3.heap.size (.slice q L.length c) L (W4.setCell ⟨B3, 47, none⟩ (.slice q L.length c)) from ⟨HO.out.1.cset HB.out, fun y hy => KOwns.cset (HO.out.2 y hy) HB.out⟩)
      clear HM4 HO
      generalize W4.setCell ⟨B3, 47, none⟩ (.slice q L.length c) = W5 at *
      refine Lib.hid ?_
      go_wp2_with (first
        | (refine wpList_load_row rfl 33 _ rfl B3 rfl 33 (gca ⟨k, t, 0, zMm, 0, zHd, q, L.length, c, L⟩) (0, 0) _ HM5.out.2.2.2.1 Tryd.underlying33 rfl (by rw [gca_size]; exact infoG) ?_)
        | (refine wpList_store_row rfl 33 _ _ rfl w.heap.size (gca ⟨k, t, 0, zMm, 0, zHd, q, L.length, c, L⟩) rfl rfl 33 _ HM5.out.2.2.1 (by kernel_rfl) rfl (gca_one _) ?_))
      refine bodyPost_ret (v := .agg (gca ⟨k, t, 0, zMm, 0, zHd, q, L.length, c, L⟩)) ?_ rfl ⟨_, rfl, by rw [HY.out, ← HU.out]; rfl, ⟨KOwns.nil _ _, OwnRs.mono ⟨HO5.out.1.rset (by have := HM5.out.2.2.2.2; have := HB.out; omega), fun y hy => KOwns.rset (HO5.out.2 y hy) (by have := HM5.out.2.2.2.2; have := HB.out; omega)⟩ (by have := HM5.out.2.2.2.2; have := HB.out; omega)⟩, by rw [HY.out]; exact HM5.out.1.rset HL.out, HM5.out.2.1.rset HL.out (Nat.le_refl _)⟩
      exact res_one Tryd.results30 (cs := gca ⟨k, t, 0, zMm, 0, zHd, q, L.length, c, L⟩) rfl (HM5.out.2.2.1.rset _) Tryd.underlying33 rfl (by rw [gca_size]; exact infoG)
  · have f9 := eq_false0 (fun h : k = 9 => e9 (.inl h))
    have f10 := eq_false0 (fun h : k = 10 => e9 (.inr h))
    have HY := Lib.hid (show Y = (((⟨k, t, 0, zMu, 0, zHd, []⟩ : Ms), false), x2) by
      have e := HY.out
      unfold gBody at e
      rw [if_neg e1, if_neg e6, if_neg e8, if_neg e9] at e
      exact e)
    clear e1 e6 e8 e9
    go_wp2_with (first
      | (refine wpList_load_row rfl 33 _ rfl B3 rfl 33 (gca (g2 k t)) (0, 0) _ HM.out.2.2.2.1 Tryd.underlying33 rfl (by rw [gca_size]; exact infoG) ?_)
      | (refine wpList_store_row rfl 33 _ _ rfl w.heap.size (gca (g2 k t)) rfl rfl 33 _ HM.out.2.2.1 (by kernel_rfl) rfl (gca_one _) ?_))
    refine bodyPost_ret (v := .agg (gca (g2 k t))) ?_ rfl ⟨_, rfl, by rw [HY.out]; rfl, ⟨KOwns.nil _ _, OwnRs.nil _ _⟩, by rw [HY.out]; exact HM.out.1.rset HL.out, HM.out.2.1.rset HL.out (Nat.le_refl _)⟩
    exact res_one Tryd.results30 (cs := gca (g2 k t)) rfl (HM.out.2.2.1.rset _) Tryd.underlying33 rfl (by rw [gca_size]; exact infoG)
end Go.Proofs.YtndgbgolmpoepaaDoor
