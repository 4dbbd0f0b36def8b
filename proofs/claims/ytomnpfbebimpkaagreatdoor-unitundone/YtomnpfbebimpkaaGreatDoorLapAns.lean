/-
  The walk of the law's own look: a program that does nothing does not answer.
-/
import Derived.Test.YtomnpfbebimpkaaGreatDoorLapTk
namespace Go.Proofs.YtomnpfbebimpkaaGreatDoor
set_option maxRecDepth 20000
open Go.RowKit

end Go.Proofs.YtomnpfbebimpkaaGreatDoor
