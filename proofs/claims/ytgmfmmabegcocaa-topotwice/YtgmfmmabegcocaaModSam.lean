/-
  SameMods of the reference, Same of package mods.
-/
import Derived.Test.YtgmfmmabegcocaaModRef
namespace Go.Proofs.Ytgmfmmabegcocaa
set_option maxRecDepth 20000
open Go.RowKit

/-- are two changes the same? -/
def mEq (a b : Mu) : Bool := (a.kind == b.kind) && (cEq a.m b.m && ((a.p == b.p) && (aEqL a.acts b.acts && ((a.idle == b.idle) && ((a.hard == b.hard) && ((a.owner == b.owner) && (a.chk == b.chk)))))))
theorem mEq_self (a : Mu) : mEq a a = true := by simp [mEq, cEq_refl, (aEqL_iff a.acts a.acts).2 rfl]
end Go.Proofs.Ytgmfmmabegcocaa
