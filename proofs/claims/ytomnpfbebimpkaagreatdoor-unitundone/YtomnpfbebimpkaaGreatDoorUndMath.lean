/-
  What goes and comes between tables, and how it is undone: no word of any program.
-/
import Derived.Test.YtomnpfbebimpkaaGreatDoorPackMod
namespace Go.Proofs.YtomnpfbebimpkaaGreatDoor
set_option maxRecDepth 20000

/-- a rule whose match says nothing beyond its cells -/
def Can (u : Ru) : Prop := ∀ j, 24 ≤ j → u.m j = 0
def CanL (us : List Ru) : Prop := ∀ u ∈ us, Can u
/-- is a rule just so in a list? -/
def inL (a : Ru) (B : List Ru) : Bool := B.any (rEq a)
/-- the rules of the first list that are not just so in the second -/
def aloneL (A B : List Ru) : List Ru := A.filter fun a => !inL a B
/-- have a rule of the first list and one of the second the same key? -/
def clash (A B : List Ru) : Bool := A.any fun x => B.any fun y => keyB x y
def swapE (l g c : List Ru) : Int := if (tabU l && (tabU g && tabU c)) = false then 2 else if (aloneL g l).isEmpty = false then 4 else if clash (aloneL l g) c then 5 else 0
def swapL (l g c : List Ru) : List Ru := tblOf (aloneL l g ++ c)
def swapV (l g c : List Ru) : List Ru := if swapE l g c = 0 then swapL l g c else []
/-- what goes and what comes from a table to another -/
def difG (a b : List Ru) : List Ru := if (tabU a && tabU b) = true then aloneL a b else []
section
variable {A B C l : List Ru} {z : Ru}
end
end Go.Proofs.YtomnpfbebimpkaaGreatDoor
