/- Several of my texts as one: UndPlace, UndCond, UndDel, UndFun, UndSwap, UndDiff, UndInv. -/
import Derived.Test.YtomnpfbebimpkaaGreatDoorUndMath
import Derived.Test.YtomnpfbebimpkaaGreatDoorPackMod
import Derived.Test.YtomnpfbebimpkaaGreatDoorPackRule
import Derived.Test.YtomnpfbebimpkaaGreatDoorPackSort
import Derived.Test.YtomnpfbebimpkaaGreatDoorPackRuleB
import Derived.Test.YtomnpfbebimpkaaGreatDoorRuleRStM
import Derived.Test.YtomnpfbebimpkaaGreatDoorPackAct
import Derived.Test.YtomnpfbebimpkaaGreatDoorPackModB
import Derived.Test.YtomnpfbebimpkaaGreatDoorModLaw
/-
  The walks of sort.Search, and of place of package undo.
-/
namespace Go.Proofs.YtomnpfbebimpkaaGreatDoor
open Go.RowKit

section
variable {l : List Rm} {r x : Rm} {c i j : Nat}
end
end Go.Proofs.YtomnpfbebimpkaaGreatDoor

/-
  The walks of the conditions that equalIn and keyIn give, and of all.
-/
namespace Go.Proofs.YtomnpfbebimpkaaGreatDoor
open Go.RowKit

theorem KLies.mid {α : Type} {K : Kd α} {W : World} {l : List α} {p : Option Addr} {cap c : Nat} {x : α} (h : KLies K (.slice p l.length cap) l W) (hx : l[c]? = some x) : KLies K (fromV K.n p (c + 1) cap c) [x] W := by
  have hlt := (List.getElem?_eq_some_iff.1 hx).1
  have h1 := h.from (c := c) (by omega)
  have e : fromV K.n p l.length cap c = .slice (if cap = c then p else p.map (·.add (c * K.n))) (l.drop c).length (cap - c) := by unfold fromV; rw [List.length_drop]
  rw [e] at h1
  have h2 := h1.upto (c := 1) (by rw [List.length_drop]; omega)
  have e2 : (l.drop c).take 1 = [x] := by rw [List.drop_eq_getElem_cons hlt, (List.getElem?_eq_some_iff.1 hx).2]; rfl
  rw [e2] at h2
  unfold fromV
  rw [show c + 1 - c = 1 by omega]
  exact h2
/-- a table in its box, with the rules' actions; a rule with its own -/
def EqS (B0 : Nat) (v : Value) (l : List Rm) (wb : Nat) (r : Rm) (W : World) : Prop := SbS B0 v l wb r W ∧ RLies v l W ∧ InA r W
section
variable {B0 : Nat} {v : Value} {l : List Rm} {wb c cap : Nat} {r x : Rm} {p : Option Addr} {W W' : World}
theorem EqS.below (hb : Below W.heap.size W W') (h : EqS B0 v l wb r W) : EqS B0 v l wb r W' := ⟨h.1.below hb, h.2.1.below hb, h.2.2.below hb⟩
theorem EqS.mid (h : EqS B0 (.slice p l.length cap) l wb r W) (hx : l[c]? = some x) (_ : c + 1 ≤ cap) : RLies (fromV 32 p (c + 1) cap c) [x] W :=
  ⟨h.2.1.1.mid hx, fun z hz => by
    simp only [List.mem_cons, List.not_mem_nil, or_false] at hz
    subst hz
    exact h.2.1.acts hx⟩
end
section
variable {l : List Rm} {r x : Rm} {c : Nat}
end
end Go.Proofs.YtomnpfbebimpkaaGreatDoor

/-
  slices.DeleteFunc over rules of one's own, whatever else is kept meanwhile; slices.Clone of rules; slices.Concat of any two lists.
-/
namespace Go.Proofs.YtomnpfbebimpkaaGreatDoor
set_option maxRecDepth 20000
open Go.RowKit

/-- what stays when memory is made, or cells are written in a block -/
structure StayS (S : World → Prop) (B : Nat) : Prop where
  below : ∀ {W W' : World}, S W → Below W.heap.size W W' → S W'
  put : ∀ {W : World} (o : Nat) (vs : List Value), S W → S (W.setCells B o vs)
end Go.Proofs.YtomnpfbebimpkaaGreatDoor

/-
  The walks of equalIn, keyIn and all of package undo.
-/
namespace Go.Proofs.YtomnpfbebimpkaaGreatDoor
set_option maxRecDepth 20000
open Go.RowKit

end Go.Proofs.YtomnpfbebimpkaaGreatDoor

/-
  The walk of swap of package undo.
-/
namespace Go.Proofs.YtomnpfbebimpkaaGreatDoor
set_option maxRecDepth 20000
open Go.RowKit

/-- what swap gives: the error, a list of one's own -/
def SwpRet (w : World) (us gs cs : List Ru) (e : Ending) (w' : World) : Prop := ∃ v L, e = .returned (.tuple #[v, .int .i64 (swapE us gs cs)]) ∧ L.map (·.u) = swapV us gs cs ∧ InS w v L w'
theorem SwpRet.no {w W : World} {us gs cs : List Ru} {n : Int} (h : swapE us gs cs = n) (hn : n ≠ 0) (hb : Below w.heap.size w W) : SwpRet w us gs cs (.returned (.tuple #[.slice none 0 0, .int .i64 n])) W :=
  ⟨.slice none 0 0, [], by rw [h], by unfold swapV; rw [if_neg (by rw [h]; exact hn)]; rfl, KOwns.nil _ _, fun y hy => (by cases hy), hb⟩
/-- the three lists -/
def SwS (w0 : World) (v : Value) (l : List Rm) (vg : Value) (g : List Rm) (vc : Value) (c : List Rm) (W : World) : Prop := RLies v l W ∧ RLies vg g W ∧ RLies vc c W ∧ Env w0 W
theorem SwS.below {w0 : World} {v vg vc : Value} {l g c : List Rm} {W W' : World} (hb : Below W.heap.size W W') (h : SwS w0 v l vg g vc c W) : SwS w0 v l vg g vc c W' := ⟨h.1.below hb, h.2.1.below hb, h.2.2.1.below hb, h.2.2.2.below hb⟩
section
variable {l g c L : List Rm}
end
section
variable {us gs cs : List Ru}
end
/-- a table that a call made, as a list of one's own -/
theorem CpS.ins {w : World} {g : Nat} {L : List Rm} {W : World} (h : CpS w.heap.size w g L.length L W) : InS w (.slice (some ⟨g, 0, none⟩) L.length L.length) L W :=
  ⟨KAt.owns okR h.1 h.2.2.2, fun y hy => (h.2.1 y hy).mono (by have := h.2.2.2; omega), h.2.2.1⟩
/-- what DeleteFunc keeps meanwhile: a table in a box, all that was there -/
def SdS (w0 : World) (Bx : Nat) (v : Value) (W : World) : Prop := Below w0.heap.size w0 W ∧ Blk Bx #[v] 27 W
theorem SdS.below {w0 : World} {Bx : Nat} {v : Value} {W W' : World} (hb : Below W.heap.size W W') (h : SdS w0 Bx v W) : SdS w0 Bx v W' := ⟨h.1.trans (hb.mono h.1.size), h.2.below hb⟩
end Go.Proofs.YtomnpfbebimpkaaGreatDoor

/-
  The walks of Forth, Back, Diff and Inverse of package undo.
-/
namespace Go.Proofs.YtomnpfbebimpkaaGreatDoor
set_option maxRecDepth 20000
open Go.RowKit

/-- the cells of an empty patch -/
def nilP : Array Value := #[.slice none 0 0, .slice none 0 0]
/-- what Diff gives: two lists of one's own -/
def DifRet (w : World) (us ks : List Ru) (e : Ending) (w' : World) : Prop := ∃ x1 L1 x2 L2, e = .returned (.agg #[x1, x2]) ∧ L1.map (·.u) = difG us ks ∧ L2.map (·.u) = difG ks us ∧ InS w x1 L1 w' ∧ InS w x2 L2 w'
/-- what DeleteFunc keeps over a copy: a table in a box, the copy's actions -/
def DdS (w0 : World) (Bx : Nat) (v : Value) (g : Nat) (L : List Rm) (W : World) : Prop := SdS w0 Bx v W ∧ ∀ r ∈ L, OwnA (g + 1) r W
section
variable {w0 w1 W W' : World} {Bx g : Nat} {v x x1 x2 : Value} {L L1 L2 l : List Rm} {us ks : List Ru}
theorem DdS.below (h : DdS w0 Bx v g L W) (hb : Below W.heap.size W W') : DdS w0 Bx v g L W' := ⟨SdS.below hb h.1, fun r hr => (h.2 r hr).below hb⟩
/-- a list of one's own, with one cell row ahead of it written -/
theorem InS.row (h : InS w1 x L W) (he : w1.heap.size = w0.heap.size + 1) (hb : Below w0.heap.size w0 w1) (vs : Array Value) : InS w0 x L (W.setRow w0.heap.size vs) :=
  ⟨(KOwns.other h.1 fun k hk _ => setRow_other _ _ _ _ (by omega)).mono (by omega), fun y hy => KOwns.mono (KOwns.other (h.2.1 y hy) fun k hk _ => setRow_other _ _ _ _ (by omega)) (by omega),
    below_setRow (hb.trans (h.2.2.mono (by omega))) (Nat.le_refl _) vs⟩
theorem InS.none (hb : Below w0.heap.size w0 W) : InS w0 (.slice none 0 0) [] W := ⟨KOwns.nil _ _, fun y hy => (by cases hy), hb⟩
theorem DifRet.no (h : (tabU us && tabU ks) = false) (hb : Below w0.heap.size w0 W) : DifRet w0 us ks (.returned (.agg nilP)) W :=
  ⟨_, [], _, [], rfl, by unfold difG; rw [h]; rfl, by unfold difG; rw [Bool.and_comm, h]; rfl, InS.none hb, InS.none hb⟩
end
end Go.Proofs.YtomnpfbebimpkaaGreatDoor

/-
  The walk of Inverse of package undo.
-/
namespace Go.Proofs.YtomnpfbebimpkaaGreatDoor
set_option maxRecDepth 20000
open Go.RowKit

end Go.Proofs.YtomnpfbebimpkaaGreatDoor
