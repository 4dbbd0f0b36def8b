/- Several of my texts as one: CodMath, CodMsg, CodRt, CodRb. -/
import Derived.Test.YtomnpfbebimpkaaGreatDoorUndMath
import Derived.Test.YtomnpfbebimpkaaGreatDoorModSam
import Derived.Test.YtomnpfbebimpkaaGreatDoorSq
/-
  Messages and their bytes: no word of any program. Numbers as bytes, what is read of bytes, which messages are sound; what is written is read again, what is read was written so.
-/
namespace Go.Proofs.YtomnpfbebimpkaaGreatDoor
set_option maxRecDepth 20000
def ByL (l : List Int) : Prop := ∀ x ∈ l, 0 ≤ x ∧ x < 256
theorem ByL.drop {a:List Int} (h:ByL a) (n:Nat):ByL (a.drop n):=fun x hx=>h x (List.mem_of_mem_drop hx)
def valB (l : List Int) : Int := l.foldl (fun a b => a * 256 + b) 0
abbrev Rd (α : Type) := List Int → Option (α × List Int)
def Rd.Ok {α : Type} (p : Rd α) : Prop := ∀ l x r t, p l = some (x, r) → p (l ++ t) = some (x, r ++ t)
def rNum (s : Nat) : Rd Int := fun l => if s ≤ l.length then some (valB (l.take s), l.drop s) else none
def rNums : List Nat → Rd (List Int)
  | [], l => some ([], l)
  | s :: ss, l => match rNum s l with
    | none => none
    | some (n, r) => match rNums ss r with
      | none => none
      | some (ns, r') => some (n :: ns, r')
def rMany {α : Type} (p : Rd α) : Nat → Rd (List α)
  | 0, l => some ([], l)
  | n + 1, l => match p l with
    | none => none
    | some (x, r) => match rMany p n r with
      | none => none
      | some (xs, r') => some (x :: xs, r')
structure Ms where
  kind : Int
  txn : Int
  e : Int
  mod : Mu
  port : Int
  head : Nat → Int
  rules : List Ru
def zMu : Mu := ⟨0, fun _ => 0, 0, [], 0, 0, 0, false⟩
def zHd : Nat → Int := fun _ => 0
def plainB (m : Ms) : Bool := (m.port == 0) && hEq m.head zHd
def sndMs (m : Ms) : Bool := (decide (0 ≤ m.txn) && decide (m.txn ≤ 4294967295)) &&
  (if m.kind = 1 then sndM m.mod && ((m.e == 0) && (plainB m && decide (m.rules.length = 0)))
  else if m.kind = 6 then mEq m.mod zMu && ((decide (1 ≤ m.e) && decide (m.e ≤ 17)) && (plainB m && decide (m.rules.length = 0)))
  else if m.kind = 8 then mEq m.mod zMu && ((m.e == 0) && ((decide (1 ≤ m.port) && decide (m.port ≤ 16)) && (sndB m.head && decide (m.rules.length = 0))))
  else if m.kind = 9 then mEq m.mod zMu && ((m.e == 0) && (plainB m && (decide (m.rules.length = 1) && m.rules.all sndR)))
  else if m.kind = 10 then mEq m.mod zMu && ((m.e == 0) && (plainB m && (decide (m.rules.length ≤ 65535) && tabU m.rules)))
  else mEq m.mod zMu && ((m.e == 0) && (plainB m && (decide (m.rules.length = 0) && (decide (2 ≤ m.kind) && decide (m.kind ≤ 7))))))
def msEq (a b : Ms) : Bool := (a.kind == b.kind) && ((a.txn == b.txn) && ((a.e == b.e) && (mEq a.mod b.mod && ((a.port == b.port) && (hEq a.head b.head && sameL a.rules b.rules)))))
structure CanMs (m : Ms) : Prop where
  mod : ∀ j, 24 ≤ j → m.mod.m j = 0
  head : ∀ j, 12 ≤ j → m.head j = 0
  rules : CanL m.rules
structure WfMs (m : Ms) : Prop where
  mod : WfM m.mod
  head : Wf m.head
  rules : WfUL m.rules
def rBind {α β : Type} (p : Rd α) (f : α → Rd β) : Rd β := fun l => match p l with
  | none => none
  | some (x, r) => f x r
section
variable {α β : Type} {p : Rd α} {f : α → Rd β} {l r : List Int} {x : α} {y : β}
theorem rBind_of (h:rBind p f l=some (y,r)):∃x r1,p l=some (x,r1)∧f x r1=some (y,r):=by
 unfold rBind at h;cases hp:p l with
 |none=>rw[hp] at h;cases h
 |some z=>rw[hp] at h;exact⟨z.1,z.2,rfl,h⟩
end
section
variable {ns : List Int} {m h : Nat → Int}
end
section
variable {a : Ac} {l r t : List Int} {ac : List Ac} {u : Ru} {m : Mu} {us : List Ru}
end
section
variable {m : Mu} {h : Nat → Int} {x : Ms}
end
section
variable {l r b : List Int} {a : Ac} {ac : List Ac} {u : Ru} {us : List Ru} {m : Mu} {x : Ms} {odd : Bool}
end
end Go.Proofs.YtomnpfbebimpkaaGreatDoor
