/-
  Bytes compared: bytes.Equal, Same of the reference.
-/
import Derived.Test.YtgmfmmabegcocaaCodRd
import Derived.Lib.ConvBytes
namespace Go.Proofs.Ytgmfmmabegcocaa
set_option maxRecDepth 20000
open Go.RowKit

/-- numbers as bytes of a text -/
def u8L (l : List Int) : List UInt8 := l.map fun n => UInt8.ofNat n.toNat
theorem u8_back {n : Int} (h : 0 ≤ n ∧ n < 256) : (((UInt8.ofNat n.toNat).toNat : Nat) : Int) = n := by
  rw [UInt8.toNat_ofNat']
  omega
theorem u8L_inj {l k : List Int} (hl : ByL l) (hk : ByL k) (h : u8L l = u8L k) : l = k := by
  have e : ∀ {x : List Int}, ByL x → (u8L x).map (fun c => ((c.toNat : Nat) : Int)) = x := fun {x} hx => by
    unfold u8L
    rw [List.map_map]
    conv => rhs; rw [← List.map_id x]
    exact List.map_congr_left fun n hn => u8_back (hx n hn)
  rw [← e hl, ← e hk, h]
theorem eq_at {l k : List Int} {r : Nat} {x y : Int} (hl : l[r]? = some x) (hk : k[r]? = some y) (h : x ≠ y) : l ≠ k := fun e => by
  subst e
  rw [hl] at hk
  injection hk with hk
  exact h hk
theorem eq_all {l k : List Int} (hn : l.length = k.length) (h : ∀ (i : Nat) x y, l[i]? = some x → k[i]? = some y → x = y) : l = k := by
  apply List.ext_getElem?
  intro i
  by_cases hi : i < l.length
  · rw [List.getElem?_eq_getElem hi, List.getElem?_eq_getElem (by omega), h i _ _ (List.getElem?_eq_getElem hi) (List.getElem?_eq_getElem (by omega))]
  · rw [List.getElem?_eq_none (by omega), List.getElem?_eq_none (by omega)]
end Go.Proofs.Ytgmfmmabegcocaa
