/-
  The program's reader of numbers: a box of what is still to be read and whether there was too little.
-/
import Derived.Test.YtndgbgolmpoepaaDoorCodWrt
import Derived.Test.YtndgbgolmpoepaaDoorCodVal
import Derived.Test.YtndgbgolmpoepaaDoorSlFrom
import Derived.Lib.EndianBits
namespace Go.Proofs.YtndgbgolmpoepaaDoor
set_option maxRecDepth 20000
open Go.RowKit

theorem elemBs : Tryd.prog.underlying 36 = some (.slice (Tryd.prog.elem 36)) := by kernel_rfl
theorem sizeElBs (w : World) : (Go.sizeOf (Tryd.prog.elem 36)).run Tryd.prog w = .ok 1 w := Tryd.sizeOf5 w
theorem execFromB {a : Act} {oi : Oper} {w : World} {x y : Operand} (ho : oi.op = .slice 36 x (some y) none none) (p : Option Addr) (len cap c : Nat) (hx : a.eval x = .slice p len cap) (hy : a.eval y = .int .i64 (c : Int))
    (hc : c ≤ len) : (execOp a.eval oi).run Tryd.prog w = .ok (.value (fromV 1 p len cap c)) w := by
  unfold execOp
  simp only [ho, hx, Option.map_some, Option.map_none, hy, Sem.run_bind]
  rw [run_sliceAt_slice (h := elemBs), run_slice_l (ht := elemBs) (h0 := by omega) (h1 := by omega), sizeElBs]
  simp [Result.andThen, sliced, fromV]
theorem execUptoB {a : Act} {oi : Oper} {w : World} {x y : Operand} (ho : oi.op = .slice 36 x none (some y) none) (p : Option Addr) (len cap c : Nat) (hx : a.eval x = .slice p len cap) (hy : a.eval y = .int .i64 (c : Int))
    (hc : c ≤ len) (hl : len ≤ cap) : (execOp a.eval oi).run Tryd.prog w = .ok (.value (.slice p c cap)) w := by
  unfold execOp
  simp only [ho, hx, Option.map_some, Option.map_none, hy, Sem.run_bind]
  rw [run_sliceAt_slice (h := elemBs), run_slice_h (ht := elemBs) (h0 := by omega) (h2 := by omega), sizeElBs]
  have e : (if cap = 0 then p else p.map (·.add (0 * 1))) = p := by
    split
    · rfl
    · cases p with
      | none => rfl
      | some ad => simp [Addr.add]
  simp only [Result.andThen, sliced, Int.toNat_natCast, Nat.sub_zero, e]
  rfl
theorem wpFromB {ops : Array Oper} {rest : List Oper} {oi : Oper} {a : Act} {w : World} {Q : Exit → Act → World → Prop} (hg : oi.guard = none) (x y : Operand) (ho : oi.op = .slice 36 x (some y) none none) (p : Option Addr) (len cap c : Nat) (hx : a.eval x = .slice p len cap) (hy : a.eval y = .int .i64 (c : Int))
    (hc : c ≤ len) (h : wpList Tryd.prog ops Q rest (a.put oi.dst (fromV 1 p len cap c)) w) : wpList Tryd.prog ops Q (oi :: rest) a w :=
  wpList_plain hg fun _ hK => by
    unfold Oper.wp
    rw [execFromB ho p len cap c hx hy hc]
    exact hK _ _ h
theorem wpUptoB {ops : Array Oper} {rest : List Oper} {oi : Oper} {a : Act} {w : World} {Q : Exit → Act → World → Prop} (hg : oi.guard = none) (x y : Operand) (ho : oi.op = .slice 36 x none (some y) none) (p : Option Addr) (len cap c : Nat) (hx : a.eval x = .slice p len cap) (hy : a.eval y = .int .i64 (c : Int))
    (hc : c ≤ len) (hl : len ≤ cap) (h : wpList Tryd.prog ops Q rest (a.put oi.dst (.slice p c cap)) w) : wpList Tryd.prog ops Q (oi :: rest) a w :=
  wpList_plain hg fun _ hK => by
    unfold Oper.wp
    rw [execUptoB ho p len cap c hx hy hc hl]
    exact hK _ _ h
/-- what a reader's method leaves of all other memory -/
structure RStep (b : Nat) (W W' : World) : Prop where
  below : Below b W W'
  keep : ∀ g, g < W.heap.size → g ≠ b → W'.heap[g]? = W.heap[g]?
/-- a reader: what is still to be read, whether there was too little -/
def RdS (w0 : World) (b : Nat) (st : Sta) (W : World) : Prop := ∃ p c, Blk b #[.slice p st.1.length c, .bool st.2] 68 W ∧ KLies KB (.slice p st.1.length c) st.1 w0 ∧ Below w0.heap.size w0 W ∧ w0.heap.size ≤ b ∧ ByL st.1
def RdRet (w0 : World) (b : Nat) (w : World) (v : Value) (st : Sta) (e : Ending) (w' : World) : Prop := e = .returned v ∧ RdS w0 b st w' ∧ RStep b w w'
section
variable {w0 W W' W'' : World} {b g : Nat} {st : Sta} {cs : Array Value} {T : TypeId}
theorem RStep.refl (b : Nat) (W : World) : RStep b W W := ⟨Below.refl _ _, fun _ _ _ => rfl⟩
theorem RStep.trans (h : RStep b W W') (k : RStep b W' W'') : RStep b W W'' := ⟨h.below.trans k.below, fun g hg hne => (k.keep g (by have := h.below.size; omega) hne).trans (h.keep g hg hne)⟩
theorem RStep.of (hb : Below W.heap.size W W') (h : b ≤ W.heap.size) : RStep b W W' := ⟨hb.mono h, fun g hg _ => hb.block g hg⟩
theorem RStep.set (h : RStep b W W') (k : Nat) (v : Value) : RStep b W (W'.setCell ⟨b, k, none⟩ v) := ⟨h.below.setCell (Nat.le_refl _) _, fun g hg hne => (heap_setCell_other _ _ _ _ (by show g ≠ b; exact hne)).trans (h.keep g hg hne)⟩
theorem RStep.blk (h : RStep b W W') (hB : Blk g cs T W) (hne : g ≠ b) : Blk g cs T W' := (h.keep g hB.lt hne).trans hB
theorem RStep.owns {α : Type} {K : Kd α} {B : Nat} {v : Value} {l : List α} (h : RStep b W W') (hO : KOwns K B v l W) (hB : b < B) : KOwns K B v l W' := hO.other fun g hg hg' => h.keep g hg' (by omega)
theorem RdS.lt (h : RdS w0 b st W) : b < W.heap.size := by obtain ⟨p, c, h1, _⟩ := h; exact h1.lt
theorem RdS.kept (h : RdS w0 b st W) : Below w0.heap.size w0 W := by obtain ⟨p, c, _, _, h3, _⟩ := h; exact h3
theorem RdS.ge (h : RdS w0 b st W) : w0.heap.size ≤ b := by obtain ⟨p, c, _, _, _, h4, _⟩ := h; exact h4
theorem RdS.byte (h : RdS w0 b st W) : ByL st.1 := by obtain ⟨p, c, _, _, _, _, h5⟩ := h; exact h5
theorem RdS.below (h : RdS w0 b st W) (hb : Below W.heap.size W W') : RdS w0 b st W' := by
  have hl := h.lt
  obtain ⟨p, c, h1, h2, h3, h4⟩ := h
  exact ⟨p, c, h1.below hb, h2, h3.trans (hb.mono (by omega)), h4⟩
theorem RdS.alloc (h : RdS w0 b st W) (o : Obj) : RdS w0 b st (W.alloc o) := h.below (below1 _ _)
theorem RStep.alloc (h : RdS w0 b st W) (o : Obj) : RStep b W (W.alloc o) := .of (below1 _ _) (by have := h.lt; omega)
/-- whether there was too little -/
theorem RdS.short (h : RdS w0 b st W) : W.cell? ⟨b, 1, none⟩ = some (.bool st.2) := by
  obtain ⟨p, c, h1, _⟩ := h
  exact (cell_of_row W b 1 _ _ _ h1).trans rfl
end
theorem infoBo : (Tryd.prog.info? 4).map (·.size) = some 1 := by kernel_rfl
theorem orB {v x : Int} (h0 : 0 ≤ v) (h1 : v < 72057594037927936) (x0 : 0 ≤ x) (x1 : x < 256) : bits .or .u64 (v * 256) x = v * 256 + x :=
  bits_join .u64 64 (by decide) wraps_u64 8 (v * 256) x (by omega) (by omega) (by omega) x0 (by omega) (by omega)
theorem valB_take {l : List Int} {r : Nat} {x : Int} (h : l[r]? = some x) : valB (l.take (r + 1)) = valB (l.take r) * 256 + x := by
  rw [List.take_add_one, h]
  exact valB_snoc _ _
theorem valB_small {l : List Int} (hb : ByL l) {r : Nat} (hr : r ≤ 7) : 0 ≤ valB (l.take r) ∧ valB (l.take r) < 72057594037927936 := by
  have h := (num_val _ (l.take r) rfl (hb.take r)).2
  have hl : (l.take r).length ≤ 7 := by rw [List.length_take]; omega
  have hp : powB (l.take r).length ≤ powB 7 := by
    have : ∀ a b : Nat, a ≤ b → powB a ≤ powB b := fun a b hab => by
      induction hab with
      | refl => exact Int.le_refl _
      | step _ ih => have := powB_pos a; show powB a ≤ powB _ * 256; omega
    exact this _ _ hl
  have h7 : powB 7 = 72057594037927936 := by decide
  omega
theorem cellB {p : Option Addr} {n c : Nat} {l : List Int} {W : World} {i : Nat} {x : Int} (h : KLies KB (.slice p n c) l W) (hi : l[i]? = some x) : ∃ bb o, p = some ⟨bb, o, none⟩ ∧ W.cell? ⟨bb, o + i, none⟩ = some (.int .u8 x) := by
  obtain ⟨bb, o, e, hr⟩ := h.at hi
  refine ⟨bb, o, e, ?_⟩
  have := hr 0 (.int .u8 x) rfl
  rwa [show o + i * 1 + 0 = o + i by omega] at this
set_option maxHeartbeats 2000000 in
theorem rword_short (w0 : World) (b : Nat) (st : Sta) (s : Nat) (_ : s ≤ 8) (hn : st.1.length < s) (w : World) (h : RdS w0 b st w) :
    Calls Tryd.prog 75 #[.pointer (some ⟨b, 0, none⟩), .int .i64 (s : Int)] w (RdRet w0 b w (.int .u64 0) ([], true)) := by
  obtain ⟨p, c, hB, hl, hk, hg, hb⟩ := h
  have R0 := Lib.hid hB
  have HK := Lib.hid hk
  have HG := Lib.hid hg
  have c0 : w.cell? ⟨b, 0, none⟩ = some (.slice p st.1.length c) := (cell_of_row w b 0 _ _ _ hB).trans rfl
  have hnI : ((st.1.length : Nat) : Int) < (s : Int) := by omega
  generalize st.1.length = n at *
  clear hB hk hg hl hb hn
  go_enter Tryd.func75, Tryd.ntmps75
  go_wp2_with (refine storeCell rfl 36 _ _ rfl b 0 (.slice none 0 0) rfl rfl rfl (R0.out.there (by simp)) infoBs ?_; refine Hid.out ?_)
  have R1 := Lib.hid (show Blk b #[.slice none 0 0, .bool st.2] 68 (w.setCell ⟨b, 0, none⟩ (.slice none 0 0)) by simpa using R0.out.one (k := 0) (.slice none 0 0))
  have T1 := Lib.hid ((RStep.refl b w).set 0 (.slice none 0 0))
  clear c0
  generalize w.setCell ⟨b, 0, none⟩ (.slice none 0 0) = W1 at *
  refine Lib.hid ?_
  go_wp2_with (refine storeCell rfl 4 _ _ rfl b 1 (.bool true) rfl rfl rfl (R1.out.there (by simp)) infoBo ?_; refine Hid.out ?_)
  have R2 := Lib.hid (show Blk b #[.slice none 0 0, .bool true] 68 (W1.setCell ⟨b, 1, none⟩ (.bool true)) by simpa using R1.out.one (k := 1) (.bool true))
  have T2 := Lib.hid (T1.out.set 1 (.bool true))
  clear R1 T1
  generalize W1.setCell ⟨b, 1, none⟩ (.bool true) = W2 at *
  refine Lib.hid ?_
  go_wp2_with fail
  go_ret
  exact ⟨rfl, ⟨none, 0, R2.out, .inl ⟨rfl, rfl⟩, HK.out.trans (T2.out.below.mono HG.out), HG.out, fun x hx => (by cases hx)⟩, T2.out⟩
set_option maxHeartbeats 2000000 in
theorem rword_ok (w0 : World) (b : Nat) (l : List Int) (sh : Bool) (s : Nat) (hs8 : s ≤ 8) (hn : s ≤ l.length) (w : World) (h : RdS w0 b (l, sh) w) :
    Calls Tryd.prog 75 #[.pointer (some ⟨b, 0, none⟩), .int .i64 (s : Int)] w (RdRet w0 b w (.int .u64 (valB (l.take s))) (l.drop s, sh)) := by
  have HS := Lib.hid h
  obtain ⟨p, c, hB, hl, hk, hg, hb⟩ := h
  have hlw : KLies KB (.slice p l.length c) l w := hl.below okB hk
  have hcap := hlw.capLe
  have R0 := Lib.hid hB
  have HL := Lib.hid hlw
  have HL0 := Lib.hid hl
  have HB := Lib.hid hb
  have c0 : w.cell? ⟨b, 0, none⟩ = some (.slice p l.length c) := (cell_of_row w b 0 _ _ _ hB).trans rfl
  have hnI : ¬ ((l.length : Nat) : Int) < (s : Int) := by omega
  have HN := Lib.hid (And.intro hn hcap)
  obtain ⟨n, hnn⟩ : ∃ n, n = l.length := ⟨_, rfl⟩
  have HNN := Lib.hid hnn
  rw [← hnn] at c0 hnI
  clear hB hk hg hl hb hlw hn hcap hnn
  go_enter Tryd.func75, Tryd.ntmps75
  go_wp2_with (refine wpUptoB rfl _ _ rfl p n c s rfl rfl (by rw [HNN.out]; exact HN.out.1) (by rw [HNN.out]; exact HN.out.2) ?_)
  go_loopg [28, 5] s (fun k i v wr => ∃ r : Nat, r + k = s ∧ i = .int .i64 r ∧ v = .int .u64 (valB (l.take r)) ∧ wr = w)
  case atStart => exact ⟨0, by omega, rfl, rfl, rfl⟩
  case round =>
    obtain ⟨r, hr, rfl, rfl, rfl⟩ := hrel
    by_cases hlt : r < s
    · have hltI : (r : Int) < (s : Int) := by omega
      obtain ⟨x, hx⟩ := lt_some (l := l) (i := r) (by have := HN.out.1; omega)
      obtain ⟨bb, o, rfl, hc⟩ := cellB HL.out hx
      obtain ⟨hv0, hv1⟩ := valB_small HB.out (r := r) (by omega)
      have hxb := HB.out x (List.mem_of_getElem? hx)
      have hor := Lib.hid (orB hv0 hv1 hxb.1 hxb.2)
      have HT := Lib.hid (valB_take hx)
      clear hx
      generalize valB (l.take r) = V at *
      go_wp2_with fail
      go_roundg (s - (r + 1))
      case measure => omega
      case rel => exact ⟨r + 1, by omega, by go_num, by rw [HT.out, ← hor.out], rfl⟩
    · have hltI : ¬ (r : Int) < (s : Int) := by omega
      obtain rfl : r = s := by omega
      go_wp2_with (first
        | (refine wpFromB rfl _ _ rfl p n c r rfl rfl (by rw [HNN.out]; exact HN.out.1) ?_)
        | (refine storeCell rfl 36 _ _ rfl b 0 (fromV 1 p n c r) rfl rfl rfl (R0.out.there (by simp)) infoBs ?_; refine Hid.out ?_))
      have R1 := Lib.hid (show Blk b #[fromV 1 p n c r, .bool sh] 68 (wr.setCell ⟨b, 0, none⟩ (fromV 1 p n c r)) by simpa using (R0.out.one (k := 0) (fromV 1 p n c r)))
      have T1 := Lib.hid ((RStep.refl b wr).set 0 (fromV 1 p n c r))
      have HF := Lib.hid (show KLies KB (fromV 1 p n c r) (l.drop r) w0 by rw [HNN.out]; exact HL0.out.from HN.out.1)
      have HKB := Lib.hid (And.intro HS.out.kept HS.out.ge)
      clear c0 R0 HL HL0 HS
      generalize wr.setCell ⟨b, 0, none⟩ (fromV 1 p n c r) = W1 at *
      refine Lib.hid ?_
      go_wp2_with fail
      go_ret
      refine ⟨rfl, ?_, T1.out⟩
      have hlen : n - r = (l.drop r).length := by rw [List.length_drop, ← HNN.out]
      have hfv : fromV 1 p n c r = .slice (if c = r then p else p.map (·.add (r * 1))) (l.drop r).length (c - r) := by rw [← hlen]; rfl
      have h1 := R1.out
      have h2 := HF.out
      rw [hfv] at h1 h2
      exact ⟨_, _, h1, h2, HKB.out.1.trans (T1.out.below.mono HKB.out.2), HKB.out.2, HB.out.drop r⟩
/-- the reader's word -/
theorem rword_any (w0 : World) (b : Nat) (st : Sta) (s : Nat) (hs8 : s ≤ 8) (w : World) (h : RdS w0 b st w) :
    Calls Tryd.prog 75 #[.pointer (some ⟨b, 0, none⟩), .int .i64 (s : Int)] w (RdRet w0 b w (.int .u64 (gN s st).1) (gN s st).2) := by
  unfold gN
  by_cases hn : st.1.length < s
  · rw [if_pos hn]
    exact rword_short w0 b st s hs8 hn w h
  · rw [if_neg hn]
    exact rword_ok w0 b st.1 st.2 s hs8 (by omega) w h
/-- the reader's number: a number with a sign -/
theorem rnumber_any (w0 : World) (b : Nat) (st : Sta) (s : Nat) (hs8 : s ≤ 8) (w : World) (h : RdS w0 b st w) :
    Calls Tryd.prog 58 #[.pointer (some ⟨b, 0, none⟩), .int .i64 (s : Int)] w (RdRet w0 b w (.int .i64 (sgnI (gN s st).1)) (gN s st).2) := by
  have HC := Lib.hid (rword_any w0 b st s hs8 w h)
  have hr := gN_rng (s := s) h.byte
  have hp : powB s ≤ powB 8 := by
    have : ∀ a b : Nat, a ≤ b → powB a ≤ powB b := fun a b hab => by
      induction hab with
      | refl => exact Int.le_refl _
      | step _ ih => have := powB_pos a; show powB a ≤ powB _ * 256; omega
    exact this _ _ hs8
  rw [powB_8] at hp
  have hw : IntKind.i64.wrap (gN s st).1 = sgnI (gN s st).1 := by
    rw [IntKind.wrap_i64]
    unfold sgnI
    split <;> omega
  clear h
  generalize (gN s st).2 = st2 at *
  generalize (gN s st).1 = n at *
  generalize sgnI n = m at *
  clear hr hp
  go_enter Tryd.func58, Tryd.ntmps58
  go_wp2_with (go_at_call 75; refine HC.out.mono ?_; rintro e w1 ⟨rfl, hs, ht⟩)
  go_ret
  exact ⟨rfl, hs, ht⟩
theorem rnumber_small (w0 : World) (b : Nat) (st : Sta) (s : Nat) (hs4 : s ≤ 4) (w : World) (h : RdS w0 b st w) :
    Calls Tryd.prog 58 #[.pointer (some ⟨b, 0, none⟩), .int .i64 (s : Int)] w (RdRet w0 b w (.int .i64 (gN s st).1) (gN s st).2) := by
  have hr := gN_rng (s := s) h.byte
  have hp : powB s ≤ powB 4 := by
    have : ∀ a b : Nat, a ≤ b → powB a ≤ powB b := fun a b hab => by
      induction hab with
      | refl => exact Int.le_refl _
      | step _ ih => have := powB_pos a; show powB a ≤ powB _ * 256; omega
    exact this _ _ hs4
  rw [powB_4] at hp
  have e : sgnI (gN s st).1 = (gN s st).1 := sgn_pos (by omega)
  have := rnumber_any w0 b st s (by omega) w h
  rwa [e] at this
end Go.Proofs.YtndgbgolmpoepaaDoor
