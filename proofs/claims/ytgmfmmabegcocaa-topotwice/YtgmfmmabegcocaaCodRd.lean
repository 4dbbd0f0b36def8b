/-
  The program's reader of numbers: a box of what is still to be read and whether there was too little.
-/
import Derived.Test.YtgmfmmabegcocaaCodWrt
import Derived.Test.YtgmfmmabegcocaaCodVal
import Derived.Test.YtgmfmmabegcocaaSlFrom
import Derived.Lib.EndianBits
namespace Go.Proofs.Ytgmfmmabegcocaa
set_option maxRecDepth 20000
open Go.RowKit

/-- what a reader's method leaves of all other memory -/
structure RStep (b : Nat) (W W' : World) : Prop where
  below : Below b W W'
  keep : ∀ g, g < W.heap.size → g ≠ b → W'.heap[g]? = W.heap[g]?
section
variable {w0 W W' W'' : World} {b g : Nat} {st : Sta} {cs : Array Value} {T : TypeId}
theorem RStep.refl (b : Nat) (W : World) : RStep b W W := ⟨Below.refl _ _, fun _ _ _ => rfl⟩
theorem RStep.trans (h : RStep b W W') (k : RStep b W' W'') : RStep b W W'' := ⟨h.below.trans k.below, fun g hg hne => (k.keep g (by have := h.below.size; omega) hne).trans (h.keep g hg hne)⟩
theorem RStep.of (hb : Below W.heap.size W W') (h : b ≤ W.heap.size) : RStep b W W' := ⟨hb.mono h, fun g hg _ => hb.block g hg⟩
theorem RStep.set (h : RStep b W W') (k : Nat) (v : Value) : RStep b W (W'.setCell ⟨b, k, none⟩ v) := ⟨h.below.setCell (Nat.le_refl _) _, fun g hg hne => (heap_setCell_other _ _ _ _ (by show g ≠ b; exact hne)).trans (h.keep g hg hne)⟩
theorem RStep.blk (h : RStep b W W') (hB : Blk g cs T W) (hne : g ≠ b) : Blk g cs T W' := (h.keep g hB.lt hne).trans hB
theorem RStep.owns {α : Type} {K : Kd α} {B : Nat} {v : Value} {l : List α} (h : RStep b W W') (hO : KOwns K B v l W) (hB : b < B) : KOwns K B v l W' := hO.other fun g hg hg' => h.keep g hg' (by omega)
end
theorem infoBo : (Try.prog.info? 4).map (·.size) = some 1 := by kernel_rfl
theorem orB {v x : Int} (h0 : 0 ≤ v) (h1 : v < 72057594037927936) (x0 : 0 ≤ x) (x1 : x < 256) : bits .or .u64 (v * 256) x = v * 256 + x :=
  bits_join .u64 64 (by decide) wraps_u64 8 (v * 256) x (by omega) (by omega) (by omega) x0 (by omega) (by omega)
theorem valB_take {l : List Int} {r : Nat} {x : Int} (h : l[r]? = some x) : valB (l.take (r + 1)) = valB (l.take r) * 256 + x := by
  rw [List.take_add_one, h]
  exact valB_snoc _ _
theorem valB_small {l : List Int} (hb : ByL l) {r : Nat} (hr : r ≤ 7) : 0 ≤ valB (l.take r) ∧ valB (l.take r) < 72057594037927936 := by
  have h := (num_val _ (l.take r) rfl (hb.take r)).2
  have hl : (l.take r).length ≤ 7 := by rw [List.length_take]; omega
  have hp : powB (l.take r).length ≤ powB 7 := by
    have : ∀ a b : Nat, a ≤ b → powB a ≤ powB b := fun a b hab => by
      induction hab with
      | refl => exact Int.le_refl _
      | step _ ih => have := powB_pos a; show powB a ≤ powB _ * 256; omega
    exact this _ _ hl
  have h7 : powB 7 = 72057594037927936 := by decide
  omega
end Go.Proofs.Ytgmfmmabegcocaa
