/-
  Changes in slices, patches in slices; what a row of changes has made, step by step.
-/
import Derived.Test.YtomnpfbebimpkaaGreatDoorUndMath
import Derived.Test.YtomnpfbebimpkaaGreatDoorPackMod
import Derived.Test.YtomnpfbebimpkaaGreatDoorPackRule
import Derived.Test.YtomnpfbebimpkaaGreatDoorPackSort
import Derived.Test.YtomnpfbebimpkaaGreatDoorPackRuleB
import Derived.Test.YtomnpfbebimpkaaGreatDoorRuleRStM
import Derived.Test.YtomnpfbebimpkaaGreatDoorPackAct
import Derived.Test.YtomnpfbebimpkaaGreatDoorPackModB
import Derived.Test.YtomnpfbebimpkaaGreatDoorModLaw
import Derived.Test.YtomnpfbebimpkaaGreatDoorSq
import Derived.Test.YtomnpfbebimpkaaGreatDoorRuleRSt
/-
  The walks of sort.Search, and of place of package undo.
-/
namespace Go.Proofs.YtomnpfbebimpkaaGreatDoor
open Go.RowKit
section
variable {l : List Rm} {r x : Rm} {c i j : Nat}
end
section
variable {B0 : Nat} {v : Value} {l : List Rm} {wb c cap : Nat} {r x : Rm} {p : Option Addr} {W W' : World}
end
section
variable {l : List Rm} {r x : Rm} {c : Nat}
end
set_option maxRecDepth 20000
structure StayS (S : World → Prop) (B : Nat) : Prop where
  below : ∀ {W W' : World}, S W → Below W.heap.size W W' → S W'
  put : ∀ {W : World} (o : Nat) (vs : List Value), S W → S (W.setCells B o vs)
section
variable {l g c L : List Rm}
end
section
variable {us gs cs : List Ru}
end
section
variable {w0 w1 W W' : World} {Bx g : Nat} {v x x1 x2 : Value} {L L1 L2 l : List Rm} {us ks : List Ru}
theorem InS.none (hb:Below w0.heap.size w0 W):InS w0 (.slice none 0 0) [] W:=⟨KOwns.nil _ _,fun y hy=>(by cases hy),hb⟩
end
end Go.Proofs.YtomnpfbebimpkaaGreatDoor

namespace Go.Proofs.YtomnpfbebimpkaaGreatDoor
set_option maxRecDepth 20000
open Go.RowKit
theorem map_nil {L:List Rm} (h:L.map (·.u)=[]):L=[]:=by simpa using h
section
variable {w0 W W' : World} {bs : List (Nat × Array Value)} {ls : List (Value × List Rm)}
end
end Go.Proofs.YtomnpfbebimpkaaGreatDoor

namespace Go.Proofs.YtomnpfbebimpkaaGreatDoor
set_option maxRecDepth 20000
open Go.RowKit
abbrev KM : Kd Mm := ⟨40, 50, 31, 264, mcl⟩
theorem okM:KM.Ok where
 pos:=by decide
 len:=fun _=>rfl
 one:=fun a u hu=>by have h:=mca_one a;rw[Array.all_eq_true'] at h;exact h u (by simpa [mca] using hu)
 under:=Tryz.underlying50
 info:=infoOf (by kernel_rfl) (by kernel_rfl) (by kernel_rfl)
 small:=by decide
 room1:=by decide
def MLies (v : Value) (l : List Mm) (W : World) : Prop := KLies KM v l W ∧ ∀ m ∈ l, InM m W
def WfML (l : List Mm) : Prop := ∀ m ∈ l, WfM m.u
section
variable {W W' : World} {v : Value} {l : List Mm}
end
structure Pp where
  vg : Option Addr × Nat × Nat
  g : List Rm
  vc : Option Addr × Nat × Nat
  c : List Rm
theorem KOwns.apartT {α β:Type} {K1:Kd α} {K2:Kd β} (hne:K1.T≠K2.T) {b1 b2:Nat} {v1 v2:Value} {l1:List α} {l2:List β} {W W':World} (h1:KOwns K1 b1 v1 l1 W) (h2:KOwns K2 b2 v2 l2 W) (hg:W.grownBy W' v2.ownBlock):KOwns K1 b1 v1 l1 W':=by
 refine h1.keep fun k hk=>?_;rcases h1.2 with⟨e,_⟩|⟨g,cap,cur,e,_,e3,_⟩
 ·rw[e] at hk;cases hk
 ·rw[e] at hk;injection hk with hk;have hk':g=k:=hk;subst hk';refine hg.block g (Array.getElem?_eq_some_iff.1 e3).1 fun eo=>?_;rcases h2.2 with⟨e',_⟩|⟨g',cap',cur',e',_,e3',_⟩
  ·rw[e'] at eo;cases eo
  ·rw[e'] at eo;injection eo with eo;have eo':g=g':=eo;subst eo';rw[e3] at e3';injection e3' with e3';injection e3' with _ e3' _;exact hne e3'
section
variable {w0 W W' : World} {v vl : Value} {L l : List Rm} {b : Nat} {LP : List Pp} {p : Pp}
end
end Go.Proofs.YtomnpfbebimpkaaGreatDoor
