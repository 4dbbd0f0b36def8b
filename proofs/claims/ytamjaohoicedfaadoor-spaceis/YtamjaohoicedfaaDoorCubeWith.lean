/-
  The walk of the program's With, and of the law's answers.
-/
import Derived.Test.YtamjaohoicedfaaDoorCubeEq
namespace Go.Proofs.YtamjaohoicedfaaDoor
open Go.RowKit

/-- what With answers: the error, the cube -/
def withE (c : Nat → Int) (n v b : Int) : Int := if csnd c then (if setE n v = 0 then (if b < 0 ∨ sz n.toNat < b then 13 else 0) else setE n v) else 2
def fixed (c : Nat → Int) (k : Nat) (v : Int) (b : Nat) : Nat → Int := upd (upd c (12 + k) (mkv (sz k).toNat b)) k (bits .and .u64 v (mkv (sz k).toNat b))
def withV (c : Nat → Int) (n v b : Int) : Nat → Int := if withE c n v b = 0 then fixed c n.toNat v b.toNat else zh

end Go.Proofs.YtamjaohoicedfaaDoor
