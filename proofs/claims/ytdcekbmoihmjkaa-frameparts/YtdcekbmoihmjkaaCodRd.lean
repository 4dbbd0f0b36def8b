/-
  The program's reader of numbers: a box of what is still to be read and whether there was too little.
-/
import Derived.Test.YtdcekbmoihmjkaaCodWrt
import Derived.Test.YtdcekbmoihmjkaaCodVal
import Derived.Test.YtdcekbmoihmjkaaSlFrom
import Derived.Lib.EndianBits
namespace Go.Proofs.Ytdcekbmoihmjkaa
set_option maxRecDepth 20000
open Go.RowKit

theorem elemBs : Try.prog.underlying 22 = some (.slice (Try.prog.elem 22)) := by kernel_rfl
theorem sizeElBs (w : World) : (Go.sizeOf (Try.prog.elem 22)).run Try.prog w = .ok 1 w := Try.sizeOf5 w
theorem execFromB {a : Act} {oi : Oper} {w : World} {x y : Operand} (ho : oi.op = .slice 22 x (some y) none none) (p : Option Addr) (len cap c : Nat) (hx : a.eval x = .slice p len cap) (hy : a.eval y = .int .i64 (c : Int))
    (hc : c ≤ len) : (execOp a.eval oi).run Try.prog w = .ok (.value (fromV 1 p len cap c)) w := by
  unfold execOp
  simp only [ho, hx, Option.map_some, Option.map_none, hy, Sem.run_bind]
  rw [run_sliceAt_slice (h := elemBs), run_slice_l (ht := elemBs) (h0 := by omega) (h1 := by omega), sizeElBs]
  simp [Result.andThen, sliced, fromV]
theorem execUptoB {a : Act} {oi : Oper} {w : World} {x y : Operand} (ho : oi.op = .slice 22 x none (some y) none) (p : Option Addr) (len cap c : Nat) (hx : a.eval x = .slice p len cap) (hy : a.eval y = .int .i64 (c : Int))
    (hc : c ≤ len) (hl : len ≤ cap) : (execOp a.eval oi).run Try.prog w = .ok (.value (.slice p c cap)) w := by
  unfold execOp
  simp only [ho, hx, Option.map_some, Option.map_none, hy, Sem.run_bind]
  rw [run_sliceAt_slice (h := elemBs), run_slice_h (ht := elemBs) (h0 := by omega) (h2 := by omega), sizeElBs]
  have e : (if cap = 0 then p else p.map (·.add (0 * 1))) = p := by
    split
    · rfl
    · cases p with
      | none => rfl
      | some ad => simp [Addr.add]
  simp only [Result.andThen, sliced, Int.toNat_natCast, Nat.sub_zero, e]
  rfl
theorem wpFromB {ops : Array Oper} {rest : List Oper} {oi : Oper} {a : Act} {w : World} {Q : Exit → Act → World → Prop} (hg : oi.guard = none) (x y : Operand) (ho : oi.op = .slice 22 x (some y) none none) (p : Option Addr) (len cap c : Nat) (hx : a.eval x = .slice p len cap) (hy : a.eval y = .int .i64 (c : Int))
    (hc : c ≤ len) (h : wpList Try.prog ops Q rest (a.put oi.dst (fromV 1 p len cap c)) w) : wpList Try.prog ops Q (oi :: rest) a w :=
  wpList_plain hg fun _ hK => by
    unfold Oper.wp
    rw [execFromB ho p len cap c hx hy hc]
    exact hK _ _ h
theorem wpUptoB {ops : Array Oper} {rest : List Oper} {oi : Oper} {a : Act} {w : World} {Q : Exit → Act → World → Prop} (hg : oi.guard = none) (x y : Operand) (ho : oi.op = .slice 22 x none (some y) none) (p : Option Addr) (len cap c : Nat) (hx : a.eval x = .slice p len cap) (hy : a.eval y = .int .i64 (c : Int))
    (hc : c ≤ len) (hl : len ≤ cap) (h : wpList Try.prog ops Q rest (a.put oi.dst (.slice p c cap)) w) : wpList Try.prog ops Q (oi :: rest) a w :=
  wpList_plain hg fun _ hK => by
    unfold Oper.wp
    rw [execUptoB ho p len cap c hx hy hc hl]
    exact hK _ _ h
/-- what a reader's method leaves of all other memory -/
structure RStep (b : Nat) (W W' : World) : Prop where
  below : Below b W W'
  keep : ∀ g, g < W.heap.size → g ≠ b → W'.heap[g]? = W.heap[g]?
section
variable {w0 W W' W'' : World} {b g : Nat} {st : Sta} {cs : Array Value} {T : TypeId}
theorem RStep.refl (b : Nat) (W : World) : RStep b W W := ⟨Below.refl _ _, fun _ _ _ => rfl⟩
theorem RStep.trans (h : RStep b W W') (k : RStep b W' W'') : RStep b W W'' := ⟨h.below.trans k.below, fun g hg hne => (k.keep g (by have := h.below.size; omega) hne).trans (h.keep g hg hne)⟩
theorem RStep.of (hb : Below W.heap.size W W') (h : b ≤ W.heap.size) : RStep b W W' := ⟨hb.mono h, fun g hg _ => hb.block g hg⟩
theorem RStep.set (h : RStep b W W') (k : Nat) (v : Value) : RStep b W (W'.setCell ⟨b, k, none⟩ v) := ⟨h.below.setCell (Nat.le_refl _) _, fun g hg hne => (heap_setCell_other _ _ _ _ (by show g ≠ b; exact hne)).trans (h.keep g hg hne)⟩
theorem RStep.blk (h : RStep b W W') (hB : Blk g cs T W) (hne : g ≠ b) : Blk g cs T W' := (h.keep g hB.lt hne).trans hB
theorem RStep.owns {α : Type} {K : Kd α} {B : Nat} {v : Value} {l : List α} (h : RStep b W W') (hO : KOwns K B v l W) (hB : b < B) : KOwns K B v l W' := hO.other fun g hg hg' => h.keep g hg' (by omega)
end
theorem infoBo : (Try.prog.info? 4).map (·.size) = some 1 := by kernel_rfl
theorem orB {v x : Int} (h0 : 0 ≤ v) (h1 : v < 72057594037927936) (x0 : 0 ≤ x) (x1 : x < 256) : bits .or .u64 (v * 256) x = v * 256 + x :=
  bits_join .u64 64 (by decide) wraps_u64 8 (v * 256) x (by omega) (by omega) (by omega) x0 (by omega) (by omega)
theorem valB_take {l : List Int} {r : Nat} {x : Int} (h : l[r]? = some x) : valB (l.take (r + 1)) = valB (l.take r) * 256 + x := by
  rw [List.take_add_one, h]
  exact valB_snoc _ _
theorem valB_small {l : List Int} (hb : ByL l) {r : Nat} (hr : r ≤ 7) : 0 ≤ valB (l.take r) ∧ valB (l.take r) < 72057594037927936 := by
  have h := (num_val _ (l.take r) rfl (hb.take r)).2
  have hl : (l.take r).length ≤ 7 := by rw [List.length_take]; omega
  have hp : powB (l.take r).length ≤ powB 7 := by
    have : ∀ a b : Nat, a ≤ b → powB a ≤ powB b := fun a b hab => by
      induction hab with
      | refl => exact Int.le_refl _
      | step _ ih => have := powB_pos a; show powB a ≤ powB _ * 256; omega
    exact this _ _ hl
  have h7 : powB 7 = 72057594037927936 := by decide
  omega
theorem cellB {p : Option Addr} {n c : Nat} {l : List Int} {W : World} {i : Nat} {x : Int} (h : KLies KB (.slice p n c) l W) (hi : l[i]? = some x) : ∃ bb o, p = some ⟨bb, o, none⟩ ∧ W.cell? ⟨bb, o + i, none⟩ = some (.int .u8 x) := by
  obtain ⟨bb, o, e, hr⟩ := h.at hi
  refine ⟨bb, o, e, ?_⟩
  have := hr 0 (.int .u8 x) rfl
  rwa [show o + i * 1 + 0 = o + i by omega] at this
end Go.Proofs.Ytdcekbmoihmjkaa
