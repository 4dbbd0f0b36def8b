/-
  The walk of math/bits.Len64.
-/
import Derived.Test.YtamjaohoicedfaaDoorProg
import Derived.Lib.Strings
import Derived.Lib.Slices
import Derived.Lib.Small
import Derived.Lib.Walk
import Derived.Lib.BitFns
namespace Go.Proofs.YtamjaohoicedfaaDoor

theorem len_way (k p : Nat) (c : Int) (hc : c = k) (hp : 2 ^ k = p) (x y : Int) (hx : x.toNat < 18446744073709551616) (hk : k = 0 ∨ p ≤ x.toNat) (hk' : k ≤ 56) (y0 : 0 ≤ y) (y1 : y ≤ 255) (hy : y.toNat = x.toNat / p) :
    (c + ((Lib.len8 y + 9223372036854775808) % 18446744073709551616 - 9223372036854775808) + 9223372036854775808) % 18446744073709551616 - 9223372036854775808 = (Lib.bitLen x.toNat : Int) := by
  subst hp
  have l := Lib.bitLen_le8 ⟨y.toNat, by omega⟩
  have s : Lib.bitLen x.toNat = k + Lib.bitLen (x.toNat / 2 ^ k) := by
    rcases hk with rfl | hk
    · simp
    · exact Lib.bitLen_shift k _ hk (by simpa using hx)
  rw [Lib.len8_int y y0 y1, s, ← hy]
  simp only at l
  omega
set_option maxHeartbeats 4000000 in
set_option maxRecDepth 100000 in
theorem len64_any (x : Int) (w : World) (h0 : 0 ≤ x) (h1 : x ≤ 18446744073709551615) :
    Calls Tryd.prog 54 #[.int .u64 x] w fun e w' => e = .returned (.int .i64 (Lib.bitLen x.toNat)) ∧ w = w' := by
  go_enter Tryd.func54, Tryd.ntmps54
  go_wp2
  all_goals (go_ret; refine ⟨congrArg Ending.returned (congrArg (Value.int IntKind.i64) ?_), rfl⟩)
  · exact len_way 56 72057594037927936 56 rfl rfl x _ (by omega) (.inr (by omega)) (by omega) (by omega) (by omega) (by omega)
  · exact len_way 48 281474976710656 48 rfl rfl x _ (by omega) (.inr (by omega)) (by omega) (by omega) (by omega) (by omega)
  · exact len_way 40 1099511627776 40 rfl rfl x _ (by omega) (.inr (by omega)) (by omega) (by omega) (by omega) (by omega)
  · exact len_way 32 4294967296 32 rfl rfl x _ (by omega) (.inr (by omega)) (by omega) (by omega) (by omega) (by omega)
  · exact len_way 24 16777216 24 rfl rfl x _ (by omega) (.inr (by omega)) (by omega) (by omega) (by omega) (by omega)
  · exact len_way 16 65536 16 rfl rfl x _ (by omega) (.inr (by omega)) (by omega) (by omega) (by omega) (by omega)
  · exact len_way 8 256 8 rfl rfl x _ (by omega) (.inr (by omega)) (by omega) (by omega) (by omega) (by omega)
  · have := len_way 0 1 0 rfl rfl x (x % 256) (by omega) (.inl rfl) (by omega) (by omega) (by omega) (by omega)
    omega
end Go.Proofs.YtamjaohoicedfaaDoor
