/-
  The walk of Hit of the reference.
-/
import Derived.Test.YtomnpfbebimpkaaGreatDoorLapHit
namespace Go.Proofs.YtomnpfbebimpkaaGreatDoor
set_option maxRecDepth 20000
open Go.RowKit

theorem KAt.thereAt {g n : Nat} {W : World} {L : List Rm} (h : KAt KR g n L W) {i m : Nat} (hi : i < L.length) (hm : m < 32) : W.there g (i * 32 + m) 1 := fun t ht => by
  have := h.there (i := i) (by have := h.1; omega) (m + t) (by show m + t < 32; omega)
  rwa [show i * KR.n + (m + t) = i * 32 + m + t by show i * 32 + (m + t) = _; omega] at this
end Go.Proofs.YtomnpfbebimpkaaGreatDoor
