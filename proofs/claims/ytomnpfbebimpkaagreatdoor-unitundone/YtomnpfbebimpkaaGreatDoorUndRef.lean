/-
  The walks of the reference's Alone and Swap.
-/
import Derived.Test.YtomnpfbebimpkaaGreatDoorPackUndo
import Derived.Test.YtomnpfbebimpkaaGreatDoorRuleRSt
namespace Go.Proofs.YtomnpfbebimpkaaGreatDoor
set_option maxRecDepth 20000
open Go.RowKit

/-- the list that grows -/
def AlS (w0 : World) (ov : Value) (L : List Rm) (W : World) : Prop := KOwns KR w0.heap.size ov L W ∧ Below w0.heap.size w0 W
theorem AlS.below {w0 : World} {ov : Value} {L : List Rm} {W W' : World} (hb : Below W.heap.size W W') (h : AlS w0 ov L W) : AlS w0 ov L W' := ⟨h.1.below hb, h.2.trans (hb.mono h.2.size)⟩
/-- what the reference's Swap gives -/
def RswRet (w : World) (us gs cs : List Ru) (e : Ending) (w' : World) : Prop := ∃ v L, e = .returned (.tuple #[v, .int .i64 (swapE us gs cs)]) ∧ L.map (·.u) = swapV us gs cs ∧ RLies v L w' ∧ Below w.heap.size w w'
theorem RswRet.no {w W : World} {us gs cs : List Ru} {n : Int} (h : swapE us gs cs = n) (hn : n ≠ 0) (hb : Below w.heap.size w W) : RswRet w us gs cs (.returned (.tuple #[.slice none 0 0, .int .i64 n])) W :=
  ⟨.slice none 0 0, [], by rw [h], by unfold swapV; rw [if_neg (by rw [h]; exact hn)]; rfl, ⟨.inl ⟨rfl, rfl⟩, fun y hy => (by cases hy)⟩, hb⟩
/-- the three lists, and what is left -/
def RvS (w0 : World) (v : Value) (l : List Rm) (vg : Value) (g : List Rm) (vc : Value) (c : List Rm) (vL : Value) (L : List Rm) (W : World) : Prop := SwS w0 v l vg g vc c W ∧ KLies KR vL L W
theorem RvS.below {w0 : World} {v vg vc vL : Value} {l g c L : List Rm} {W W' : World} (hb : Below W.heap.size W W') (h : RvS w0 v l vg g vc c vL L W) : RvS w0 v l vg g vc c vL L W' := ⟨SwS.below hb h.1, h.2.below okR hb⟩
end Go.Proofs.YtomnpfbebimpkaaGreatDoor
