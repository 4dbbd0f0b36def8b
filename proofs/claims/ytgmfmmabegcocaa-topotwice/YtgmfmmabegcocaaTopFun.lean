/-
  inRange and isPort.
-/
import Derived.Test.YtgmfmmabegcocaaTopVal
namespace Go.Proofs.Ytgmfmmabegcocaa
set_option maxRecDepth 20000
open Go.RowKit

/-- a setup's cells -/
abbrev sca (U P R : Int) (q : Option Addr) (n c : Nat) : Array Value := #[.int .i64 U, .int .i64 P, .int .i64 R, .slice q n c]
theorem ret_b {a b : Bool} (h : a = b) : Ending.returned (.bool a) = .returned (.bool b) := by rw [h]
set_option maxHeartbeats 1000000 in
theorem inRange_any (U P R : Int) (q : Option Addr) (n c : Nat) (w : World) :
    Calls Try.prog 13 #[.agg (sca U P R q n c)] w fun e w' => e = .returned (.bool (rangeB U P R)) ∧ Below w.heap.size w w' := by
  have HB := Lib.hid (below1 w (.cells (sca U P R q n c) 24))
  by_cases h1 : 1 ≤ U
  · by_cases h2 : U ≤ 8
    · by_cases h3 : 1 ≤ P
      · by_cases h4 : P ≤ 16
        · by_cases h5 : 0 ≤ R
          · by_cases h6 : R ≤ 32
            · have HR := Lib.hid (show true = rangeB U P R by simp [rangeB, h1, h2, h3, h4, h5, h6])
              go_enter Try.func13, Try.ntmps13
              go_wp2_with fail
              go_ret
              exact ⟨ret_b HR.out, HB.out⟩
            · have HR := Lib.hid (show false = rangeB U P R by simp [rangeB, h6])
              go_enter Try.func13, Try.ntmps13
              go_wp2_with fail
              go_ret
              exact ⟨ret_b HR.out, HB.out⟩
          · have HR := Lib.hid (show false = rangeB U P R by simp [rangeB, h5])
            go_enter Try.func13, Try.ntmps13
            go_wp2_with fail
            go_ret
            exact ⟨ret_b HR.out, HB.out⟩
        · have HR := Lib.hid (show false = rangeB U P R by simp [rangeB, h4])
          go_enter Try.func13, Try.ntmps13
          go_wp2_with fail
          go_ret
          exact ⟨ret_b HR.out, HB.out⟩
      · have HR := Lib.hid (show false = rangeB U P R by simp [rangeB, h3])
        go_enter Try.func13, Try.ntmps13
        go_wp2_with fail
        go_ret
        exact ⟨ret_b HR.out, HB.out⟩
    · have HR := Lib.hid (show false = rangeB U P R by simp [rangeB, h2])
      go_enter Try.func13, Try.ntmps13
      go_wp2_with fail
      go_ret
      exact ⟨ret_b HR.out, HB.out⟩
  · have HR := Lib.hid (show false = rangeB U P R by simp [rangeB, h1])
    go_enter Try.func13, Try.ntmps13
    go_wp2_with fail
    go_ret
    exact ⟨ret_b HR.out, HB.out⟩
set_option maxHeartbeats 1000000 in
theorem isPort_any (U P R : Int) (q : Option Addr) (n c : Nat) (e : En) (w : World) :
    Calls Try.prog 14 #[.agg (sca U P R q n c), eV e] w fun x w' => x = .returned (.bool (portB U P e)) ∧ Below w.heap.size w w' := by
  obtain ⟨u, p⟩ := e
  have HB := Lib.hid ((below1 w (.cells (sca U P R q n c) 24)).trans ((below1 (w.alloc (.cells (sca U P R q n c) 24)) (.cells #[.int .i64 u, .int .i64 p] 26)).mono (below1 w (.cells (sca U P R q n c) 24)).size))
  change Calls Try.prog _ #[_, .agg #[.int .i64 u, .int .i64 p]] _ _
  by_cases h1 : 0 ≤ u
  · by_cases h2 : u < U
    · by_cases h3 : 1 ≤ p
      · by_cases h4 : p ≤ P
        · have HR := Lib.hid (show true = portB U P (u, p) by simp [portB, h1, h2, h3, h4])
          go_enter Try.func14, Try.ntmps14
          go_wp2_with fail
          go_ret
          exact ⟨ret_b HR.out, HB.out⟩
        · have HR := Lib.hid (show false = portB U P (u, p) by simp [portB, h4])
          go_enter Try.func14, Try.ntmps14
          go_wp2_with fail
          go_ret
          exact ⟨ret_b HR.out, HB.out⟩
      · have HR := Lib.hid (show false = portB U P (u, p) by simp [portB, h3])
        go_enter Try.func14, Try.ntmps14
        go_wp2_with fail
        go_ret
        exact ⟨ret_b HR.out, HB.out⟩
    · have HR := Lib.hid (show false = portB U P (u, p) by simp [portB, h2])
      go_enter Try.func14, Try.ntmps14
      go_wp2_with fail
      go_ret
      exact ⟨ret_b HR.out, HB.out⟩
  · have HR := Lib.hid (show false = portB U P (u, p) by simp [portB, h1])
    go_enter Try.func14, Try.ntmps14
    go_wp2_with fail
    go_ret
    exact ⟨ret_b HR.out, HB.out⟩
end Go.Proofs.Ytgmfmmabegcocaa
