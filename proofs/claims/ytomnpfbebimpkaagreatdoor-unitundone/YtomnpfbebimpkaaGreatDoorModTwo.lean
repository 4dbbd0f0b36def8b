/-
  Laws with two changes: what they share.
-/
import Derived.Test.YtomnpfbebimpkaaGreatDoorModSam
namespace Go.Proofs.YtomnpfbebimpkaaGreatDoor
set_option maxRecDepth 20000
open Go.RowKit

/-- a list, two changes and their boxes -/
def A2S (w0 : World) (v : Value) (l : List Rm) (m n : Mm) (W : World) : Prop := RLies v l W ∧ (InM m W ∧ InM n W) ∧ (Blk w0.heap.size (mca m) 40 W ∧ Blk (w0.heap.size + 1) (mca n) 40 W) ∧ Env w0 W
theorem A2S.below {w0 : World} {v : Value} {l : List Rm} {m n : Mm} {W W' : World} (hb : Below W.heap.size W W') (h : A2S w0 v l m n W) : A2S w0 v l m n W' :=
  ⟨h.1.below hb, ⟨h.2.1.1.below hb, h.2.1.2.below hb⟩, ⟨h.2.2.1.1.below hb, h.2.2.1.2.below hb⟩, h.2.2.2.below hb⟩
theorem A2S.start {w0 : World} {v : Value} {l : List Rm} {m n : Mm} (hl : RLies v l w0) (hm : InM m w0) (hn : InM n w0) (ht : Tab w0) (hz : 0 < w0.heap.size) :
    A2S w0 v l m n ((w0.alloc (.cells (mca m) 40)).alloc (.cells (mca n) 40)) :=
  ⟨hl.below (twoM_below w0 m n), ⟨hm.below (twoM_below w0 m n), hn.below (twoM_below w0 m n)⟩, ⟨twoM_a w0 m n, twoM_b w0 m n⟩, ((Env.start ht hz).alloc _).alloc _⟩
end Go.Proofs.YtomnpfbebimpkaaGreatDoor
