/-
  What moments and hits do to rules, and to lists of rules: no word of any program.
-/
import Derived.Test.YtomnpfbebimpkaaGreatDoorPackRule
namespace Go.Proofs.YtomnpfbebimpkaaGreatDoor
set_option maxRecDepth 20000

/-- a number and some more, at most 2^62, or what it was above that -/
def moreI (a n : Int) : Int := if 4611686018427387904 < a then a else if 4611686018427387904 - n < a then 4611686018427387904 else a + n
/-- moments, from 0 to 2^20 -/
def clampN (n : Int) : Int := if n < 0 then 0 else if 1048576 < n then 1048576 else n
/-- a rule, some moments later -/
def tickU (n : Int) (u : Ru) : Ru := { u with quiet := moreI u.quiet n, age := moreI u.age n }
/-- has a rule lapsed? -/
def goneB (u : Ru) : Bool := (decide (0 < u.hard) && decide (u.hard ≤ u.age)) || (decide (0 < u.idle) && decide (u.idle ≤ u.quiet))
/-- a rule that was hit -/
def hitU (u : Ru) : Ru := { u with hits := moreI u.hits 1, quiet := 0 }
def leftL (n : Int) (us : List Ru) : List Ru := (us.map (tickU n)).filter fun u => !goneB u
def goneL (n : Int) (us : List Ru) : List Ru := (us.map (tickU n)).filter goneB
theorem clamp_range (n : Int) : 0 ≤ clampN n ∧ clampN n ≤ 1048576 := by unfold clampN; split <;> (try split) <;> omega
theorem clamp_of {n : Int} (h0 : 0 ≤ n) (h1 : n ≤ 1048576) : clampN n = n := by unfold clampN; rw [if_neg (by omega), if_neg (by omega)]
theorem clamp_neg {n : Int} (h : n ≤ 0) : clampN n = 0 := by unfold clampN; split <;> (try split) <;> omega
theorem more_range {a n : Int} (ha : I64 a) (h0 : 0 ≤ n) (h1 : n ≤ 1048576) : I64 (moreI a n) := by
  unfold I64 moreI at *
  split <;> (try split) <;> omega
theorem more_small {a n : Int} (h : a ≤ 4611686018427387904 - n) (h0 : 0 ≤ n) : moreI a n = a + n := by unfold moreI; rw [if_neg (by omega), if_neg (by omega)]
theorem more_le {a n m : Int} (h : n ≤ m) : moreI a n ≤ moreI a m := by
  unfold moreI
  split <;> (try split) <;> (try split) <;> omega
theorem tick_twice {u : Ru} {n m : Int} (ha : u.age ≤ 2305843009213693952) (hq : u.quiet ≤ 2305843009213693952) (n0 : 0 ≤ n) (n1 : n ≤ 1048576) (m0 : 0 ≤ m) (m1 : m ≤ 1048576) : tickU m (tickU n u) = tickU (n + m) u := by
  have h : ∀ a : Int, a ≤ 2305843009213693952 → moreI (moreI a n) m = moreI a (n + m) := fun a ha => by
    rw [more_small (a := a) (n := n) (by omega) n0, more_small (by omega) m0, more_small (by omega) (by omega)]
    omega
  show ({ { u with quiet := moreI u.quiet n, age := moreI u.age n } with quiet := moreI (moreI u.quiet n) m, age := moreI (moreI u.age n) m } : Ru) = { u with quiet := moreI u.quiet (n + m), age := moreI u.age (n + m) }
  rw [h _ ha, h _ hq]
theorem gone_later {u : Ru} {n m : Int} (h : n ≤ m) (hg : goneB (tickU n u) = true) : goneB (tickU m u) = true := by
  have h1 := more_le (a := u.age) h
  have h2 := more_le (a := u.quiet) h
  unfold goneB tickU at *
  simp only [Bool.or_eq_true, Bool.and_eq_true, decide_eq_true_eq] at *
  omega
theorem left_gone_len (n : Int) (us : List Ru) : (leftL n us).length + (goneL n us).length = us.length := by
  induction us with
  | nil => rfl
  | cons u us ih =>
    unfold leftL goneL at *
    rw [List.map_cons, List.filter_cons, List.filter_cons]
    cases goneB (tickU n u) <;> simp <;> omega
/-- moments by parts -/
theorem left_parts {us : List Ru} {n m : Int} (hu : ∀ u ∈ us, u.age ≤ 2305843009213693952 ∧ u.quiet ≤ 2305843009213693952) (n0 : 0 ≤ n) (n1 : n ≤ 1048576) (m0 : 0 ≤ m) (m1 : m ≤ 1048576) : leftL m (leftL n us) = leftL (n + m) us := by
  induction us with
  | nil => rfl
  | cons u us ih =>
    have ih := ih fun v hv => hu v (List.mem_cons_of_mem _ hv)
    have h0 := hu u (by simp)
    have ht := tick_twice (n := n) (m := m) h0.1 h0.2 n0 n1 m0 m1
    unfold leftL at *
    rw [List.map_cons, List.filter_cons, List.map_cons, List.filter_cons]
    cases hg : goneB (tickU n u)
    · simp only [Bool.not_false, if_true]
      rw [List.map_cons, List.filter_cons, ht, ih]
    · rw [gone_later (show n ≤ n + m by omega) hg]
      simp only [Bool.not_true, Bool.false_eq_true, if_false]
      exact ih
theorem gone_parts {us : List Ru} {n m : Int} (hu : ∀ u ∈ us, u.age ≤ 2305843009213693952 ∧ u.quiet ≤ 2305843009213693952) (n0 : 0 ≤ n) (n1 : n ≤ 1048576) (m0 : 0 ≤ m) (m1 : m ≤ 1048576) :
    (goneL n us).length + (goneL m (leftL n us)).length = (goneL (n + m) us).length := by
  have h1 := left_gone_len n us
  have h2 := left_gone_len m (leftL n us)
  have h3 := left_gone_len (n + m) us
  rw [left_parts hu n0 n1 m0 m1] at h2
  omega
/-- the rules, one of them hit -/
def hitL (at_ : Int) (us : List Ru) : List Ru := if 0 ≤ at_ then us.modify at_.toNat hitU else us
end Go.Proofs.YtomnpfbebimpkaaGreatDoor
