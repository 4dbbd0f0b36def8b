/-
  The walk of Tick of the reference.
-/
import Derived.Test.YtomnpfbebimpkaaGreatDoorLapTkM
namespace Go.Proofs.YtomnpfbebimpkaaGreatDoor
set_option maxRecDepth 20000
open Go.RowKit

end Go.Proofs.YtomnpfbebimpkaaGreatDoor
