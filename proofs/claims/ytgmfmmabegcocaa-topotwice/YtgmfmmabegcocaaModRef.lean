/-
  The reference's Mod; SameMods of the reference, Same of package mods; the reference's Ints.
-/
import Derived.Test.YtgmfmmabegcocaaPackMod
namespace Go.Proofs.Ytgmfmmabegcocaa
set_option maxRecDepth 20000
open Go.RowKit

theorem neT {a k : Int} (h : a ≠ k) : (a != k) = true := by simpa using h
theorem neF {a k : Int} (h : a = k) : (a != k) = false := by simpa using h
theorem dT {p : Prop} [Decidable p] (h : p) : decide p = true := decide_eq_true h
theorem dF {p : Prop} [Decidable p] (h : ¬ p) : decide p = false := decide_eq_false h
end Go.Proofs.Ytgmfmmabegcocaa
