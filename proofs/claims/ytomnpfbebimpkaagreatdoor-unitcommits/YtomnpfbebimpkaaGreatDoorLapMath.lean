/-
  What moments and hits do to rules, and to lists of rules: no word of any program.
-/
import Derived.Test.YtomnpfbebimpkaaGreatDoorPackRule
namespace Go.Proofs.YtomnpfbebimpkaaGreatDoor
set_option maxRecDepth 20000

/-- a number and some more, at most 2^62, or what it was above that -/
def moreI (a n : Int) : Int := if 4611686018427387904 < a then a else if 4611686018427387904 - n < a then 4611686018427387904 else a + n
/-- moments, from 0 to 2^20 -/
def clampN (n : Int) : Int := if n < 0 then 0 else if 1048576 < n then 1048576 else n
/-- a rule, some moments later -/
def tickU (n : Int) (u : Ru) : Ru := { u with quiet := moreI u.quiet n, age := moreI u.age n }
/-- has a rule lapsed? -/
def goneB (u : Ru) : Bool := (decide (0 < u.hard) && decide (u.hard ≤ u.age)) || (decide (0 < u.idle) && decide (u.idle ≤ u.quiet))
/-- a rule that was hit -/
def hitU (u : Ru) : Ru := { u with hits := moreI u.hits 1, quiet := 0 }
def leftL (n : Int) (us : List Ru) : List Ru := (us.map (tickU n)).filter fun u => !goneB u
def goneL (n : Int) (us : List Ru) : List Ru := (us.map (tickU n)).filter goneB
theorem clamp_range (n : Int) : 0 ≤ clampN n ∧ clampN n ≤ 1048576 := by unfold clampN; split <;> (try split) <;> omega
theorem left_gone_len (n : Int) (us : List Ru) : (leftL n us).length + (goneL n us).length = us.length := by
  induction us with
  | nil => rfl
  | cons u us ih =>
    unfold leftL goneL at *
    rw [List.map_cons, List.filter_cons, List.filter_cons]
    cases goneB (tickU n u) <;> simp <;> omega
/-- the rules, one of them hit -/
def hitL (at_ : Int) (us : List Ru) : List Ru := if 0 ≤ at_ then us.modify at_.toNat hitU else us
end Go.Proofs.YtomnpfbebimpkaaGreatDoor
