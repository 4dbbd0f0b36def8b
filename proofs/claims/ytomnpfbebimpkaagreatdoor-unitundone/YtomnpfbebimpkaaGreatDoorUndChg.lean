/-
  Changes in slices, patches in slices; what a row of changes has made, step by step.
-/
import Derived.Test.YtomnpfbebimpkaaGreatDoorUndLaw
namespace Go.Proofs.YtomnpfbebimpkaaGreatDoor
set_option maxRecDepth 20000
open Go.RowKit

abbrev KM : Kd Mm := ⟨40, 50, 31, 264, mcl⟩
theorem okM : KM.Ok where
  pos := by decide
  len := fun _ => rfl
  one := fun a u hu => by
    have h := mca_one a
    rw [Array.all_eq_true'] at h
    exact h u (by simpa [mca] using hu)
  under := Tryz.underlying50
  info := infoOf (by kernel_rfl) (by kernel_rfl) (by kernel_rfl)
  small := by decide
  room1 := by decide
/-- changes that lie in memory, with their actions -/
def MLies (v : Value) (l : List Mm) (W : World) : Prop := KLies KM v l W ∧ ∀ m ∈ l, InM m W
def WfML (l : List Mm) : Prop := ∀ m ∈ l, WfM m.u
section
variable {W W' : World} {v : Value} {l : List Mm}
theorem MLies.below (h : MLies v l W) (hb : Below W.heap.size W W') : MLies v l W' := ⟨h.1.below okM hb, fun m hm => (h.2 m hm).below hb⟩
end
/-- a patch in memory -/
structure Pp where
  vg : Option Addr × Nat × Nat
  g : List Rm
  vc : Option Addr × Nat × Nat
  c : List Rm
def sl3 (x : Option Addr × Nat × Nat) : Value := .slice x.1 x.2.1 x.2.2
/-- a block of one kind is none of another -/
theorem KOwns.apartT {α β : Type} {K1 : Kd α} {K2 : Kd β} (hne : K1.T ≠ K2.T) {b1 b2 : Nat} {v1 v2 : Value} {l1 : List α} {l2 : List β} {W W' : World} (h1 : KOwns K1 b1 v1 l1 W) (h2 : KOwns K2 b2 v2 l2 W) (hg : W.grownBy W' v2.ownBlock) : KOwns K1 b1 v1 l1 W' := by
  refine h1.keep fun k hk => ?_
  rcases h1.2 with ⟨e, _⟩ | ⟨g, cap, cur, e, _, e3, _⟩
  · rw [e] at hk; cases hk
  · rw [e] at hk
    injection hk with hk
    have hk' : g = k := hk
    subst hk'
    refine hg.block g (Array.getElem?_eq_some_iff.1 e3).1 fun eo => ?_
    rcases h2.2 with ⟨e', _⟩ | ⟨g', cap', cur', e', _, e3', _⟩
    · rw [e'] at eo; cases eo
    · rw [e'] at eo
      injection eo with eo
      have eo' : g = g' := eo
      subst eo'
      rw [e3] at e3'
      injection e3' with e3'
      injection e3' with _ e3' _
      exact hne e3'
/-- a list of rules of one's own, with their actions -/
def OwnL (w0 : World) (v : Value) (L : List Rm) (W : World) : Prop := KOwns KR w0.heap.size v L W ∧ ∀ y ∈ L, OwnA w0.heap.size y W
section
variable {w0 W W' : World} {v vl : Value} {L l : List Rm} {b : Nat} {LP : List Pp} {p : Pp}
theorem OwnL.of (h : InS w0 v L W) : OwnL w0 v L W := ⟨h.1, h.2.1⟩
theorem OwnL.below (h : OwnL w0 v L W) (hb : Below W.heap.size W W') : OwnL w0 v L W' := ⟨h.1.below hb, fun y hy => (h.2 y hy).below hb⟩
theorem OwnL.lies (h : OwnL w0 v L W) : RLies v L W := ⟨h.1.lies okR, fun y hy => (h.2 y hy).inA⟩
/-- a patch whose lists are of one's own -/
def PIn (w0 : World) (p : Pp) (W : World) : Prop := OwnL w0 (sl3 p.vg) p.g W ∧ OwnL w0 (sl3 p.vc) p.c W
theorem PIn.below (h : PIn w0 p W) (hb : Below W.heap.size W W') : PIn w0 p W' := ⟨h.1.below hb, h.2.below hb⟩
/-- the table at a moment: the one that came in, or one of one's own -/
def NowS (w0 : World) (v : Value) (L : List Rm) (W : World) : Prop := RLies v L w0 ∨ OwnL w0 v L W
theorem NowS.below (h : NowS w0 v L W) (hb : Below W.heap.size W W') : NowS w0 v L W' := h.imp id fun h => h.below hb
theorem NowS.lies (h : NowS w0 v L W) (hb : Below w0.heap.size w0 W) : RLies v L W := h.elim (fun h => h.below hb) fun h => h.lies
end
end Go.Proofs.YtomnpfbebimpkaaGreatDoor
