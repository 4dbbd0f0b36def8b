/-
  Setups and ends that come in, opened; how many links there can be.
-/
import Derived.Test.YtgmfmmabegcocaaTopMap
import Derived.Test.YtgmfmmabegcocaaRuleArg
namespace Go.Proofs.Ytgmfmmabegcocaa
set_option maxRecDepth 20000
open Go.ChangeShapes Go.WideShapes Go.ChangeAt Go.RowKit
section
variable {H : Type} {enc : TypeId × Value → H} {W : World} {base : Nat} {sp : Nat → Bool} {held : Bool}
theorem cEnd : Try.prog.cellsOf 26 = 2 := by kernel_rfl
theorem cLink : Try.prog.cellsOf 36 = 4 := by kernel_rfl
theorem cSetup : Try.prog.cellsOf 24 = 4 := by kernel_rfl
theorem endFields2 : ∃ f0 f1 : Field, Try.prog.underlying 26 = some (.struct #[f0, f1]) ∧ (f0.type = 3 ∧ f0.offset = 0) ∧ (f1.type = 3 ∧ f1.offset = 1) := ⟨_, _, Try.underlying26, ⟨rfl, rfl⟩, ⟨rfl, rfl⟩⟩
theorem linkFields2 : ∃ f0 f1 : Field, Try.prog.underlying 36 = some (.struct #[f0, f1]) ∧ (f0.type = 26 ∧ f0.offset = 0) ∧ (f1.type = 26 ∧ f1.offset = 2) := ⟨_, _, Try.underlying36, ⟨rfl, rfl⟩, ⟨rfl, rfl⟩⟩
theorem setupFields4 : ∃ f0 f1 f2 f3 : Field, Try.prog.underlying 24 = some (.struct #[f0, f1, f2, f3]) ∧ (f0.type = 3 ∧ f0.offset = 0) ∧ (f1.type = 3 ∧ f1.offset = 1) ∧ (f2.type = 3 ∧ f2.offset = 2) ∧ (f3.type = 22 ∧ f3.offset = 3) :=
  ⟨_, _, _, _, Try.underlying24, ⟨rfl, rfl⟩, ⟨rfl, rfl⟩, ⟨rfl, rfl⟩, ⟨rfl, rfl⟩⟩
theorem trod_end (fuel : Nat) (cs : List Value) (x : DataW H × List MemPlace) (h : DataW.trod enc Try.prog W base sp held fuel 26 cs = some x) : ∃ e : En, cs = ecl e := by
  obtain ⟨f0, f1, hu, ⟨t0, o0⟩, ⟨t1, o1⟩⟩ := endFields2
  obtain ⟨xs, n, _, rfl, hl, hlen, hf⟩ := DataW.trod_struct hu h
  have hcs : cs.length = 2 := by rw [hl, cEnd]
  have cI : Try.prog.cellsOf 3 = 1 := by kernel_rfl
  match xs, hlen with
  | [y0, y1], _ =>
    have h0 := hf 0 f0 rfl
    have h1 := hf 1 f1 rfl
    rw [t0, o0, cI] at h0
    rw [t1, o1, cI] at h1
    obtain ⟨a, e0, _, _⟩ := DataW.trod_int Try.underlying3 h0
    obtain ⟨b, e1, _, _⟩ := DataW.trod_int Try.underlying3 h1
    match cs, hcs with
    | [u, v], _ =>
      simp at e0 e1
      subst e0 e1
      exact ⟨(a, b), rfl⟩
theorem trod_link (fuel : Nat) (cs : List Value) (x : DataW H × List MemPlace) (h : DataW.trod enc Try.prog W base sp held fuel 36 cs = some x) : ∃ a : Ln, cs = KN.cells a ∧ True := by
  obtain ⟨f0, f1, hu, ⟨t0, o0⟩, ⟨t1, o1⟩⟩ := linkFields2
  obtain ⟨xs, n, _, rfl, hl, hlen, hf⟩ := DataW.trod_struct hu h
  have hcs : cs.length = 4 := by rw [hl, cLink]
  match xs, hlen with
  | [y0, y1], _ =>
    have h0 := hf 0 f0 rfl
    have h1 := hf 1 f1 rfl
    rw [t0, o0, cEnd] at h0
    rw [t1, o1, cEnd] at h1
    obtain ⟨a, e0⟩ := trod_end _ _ _ h0
    obtain ⟨b, e1⟩ := trod_end _ _ _ h1
    match cs, hcs with
    | [u, v, s, t], _ =>
      obtain ⟨a1, a2⟩ := a
      obtain ⟨b1, b2⟩ := b
      simp [ecl] at e0 e1
      obtain ⟨rfl, rfl⟩ := e0
      obtain ⟨rfl, rfl⟩ := e1
      exact ⟨((a1, a2), (b1, b2)), rfl, trivial⟩
theorem open_end {v : Value} {d : DataW H} {p : List MemPlace} {b : Nat} (hv : Value.okWide Try.prog W .any b 26 v) (h : DataW.Trod enc Try.prog W base sp held 26 v d p) : ∃ e : En, v = .agg (eca e) := by
  simp only [Value.okWide, Try.underlying26] at hv
  obtain ⟨cs, rfl, _, _⟩ := hv
  obtain ⟨fuel, hf⟩ := h
  obtain ⟨e, h1⟩ := trod_end _ _ _ hf
  refine ⟨e, ?_⟩
  have : cs = eca e := by simpa [Value.cells, eca, ecl] using congrArg List.toArray h1
  rw [this]
theorem open_setup {v : Value} {d : DataW H} {p : List MemPlace} {b : Nat} (hwt : ∀ n ∈ d.weights Try.prog 24, n ≤ reachBytes) (hv : Value.okWide Try.prog W .any b 24 v) (h : DataW.Trod enc Try.prog W base sp held 24 v d p) :
    ∃ (U P R : Int) (q : Option Addr) (n c : Nat) (L : List Ln), v = .agg #[.int .i64 U, .int .i64 P, .int .i64 R, .slice q n c] ∧ KLies KN (.slice q n c) L W ∧ L.length * 32 ≤ 140737488355328 := by
  simp only [Value.okWide, Try.underlying24] at hv
  obtain ⟨cs, rfl, _, _⟩ := hv
  obtain ⟨fuel, hf0⟩ := h
  obtain ⟨f0, f1, f2, f3, hu, ⟨t0, o0⟩, ⟨t1, o1⟩, ⟨t2, o2⟩, ⟨t3, o3⟩⟩ := setupFields4
  obtain ⟨xs, n, _, hxe, hl, hlen, hf⟩ := DataW.trod_struct hu hf0
  have hcs : cs.toList.length = 4 := by have := hl; rw [cSetup] at this; exact this
  have cI : Try.prog.cellsOf 3 = 1 := by kernel_rfl
  have cS : Try.prog.cellsOf 22 = 1 := by kernel_rfl
  match xs, hlen with
  | [y0, y1, y2, y3], _ =>
    have h0 := hf 0 f0 rfl
    have h1 := hf 1 f1 rfl
    have h2 := hf 2 f2 rfl
    have h3 := hf 3 f3 rfl
    rw [t0, o0, cI] at h0
    rw [t1, o1, cI] at h1
    rw [t2, o2, cI] at h2
    rw [t3, o3, cS] at h3
    have hw3 : ∀ n ∈ y3.1.weights Try.prog 22, n ≤ reachBytes := fun k hk => by
      refine hwt k ?_
      have hd := congrArg Prod.fst hxe
      simp only at hd
      rw [hd]
      simp only [DataW.weights, hu]
      exact DataW.weights_mem_each (j := 3) (t := 22) (d := y3.1) (by simp [t3]) (by simp) k hk
    obtain ⟨U, e0, _, _⟩ := DataW.trod_int Try.underlying3 h0
    obtain ⟨P, e1, _, _⟩ := DataW.trod_int Try.underlying3 h1
    obtain ⟨R, e2, _, _⟩ := DataW.trod_int Try.underlying3 h2
    obtain ⟨q, nn, c, L, e3, hlies, _, hroom⟩ := trod_kind KN okN (fun _ => True) cLink (fun fu c' x' h' _ => trod_link fu c' x' h') h3 hw3
    have hbl : Try.prog.bytesOf KN.T = 32 := by kernel_rfl
    rw [hbl] at hroom
    have hre := reach_le
    refine ⟨U, P, R, q, nn, c, L, ?_, hlies, by omega⟩
    have hc2 : cs.toList = [.int .i64 U, .int .i64 P, .int .i64 R, .slice q nn c] := by
      match hcl : cs.toList, hcs with
      | [u, v, s, t], _ =>
        simp only [Value.cells, hcl] at e0 e1 e2 e3
        simp at e0 e1 e2 e3
        rw [e0, e1, e2, e3]
    have : cs = #[.int .i64 U, .int .i64 P, .int .i64 R, .slice q nn c] := by rw [← Array.toArray_toList (xs := cs), hc2]
    rw [this]
theorem u8_ofT {n : Int} (h : (Lit.int .u8 n).wf = true) : 0 ≤ n ∧ n < 256 := by
  simp only [Lit.wf, Bool.and_eq_true, decide_eq_true_eq] at h
  have e1 : IntKind.u8.max = 255 := by decide
  have e2 : IntKind.u8.min = 0 := by decide
  rw [e1, e2] at h
  omega
end
theorem readSetup : Try.prog.readableRec 24 = true := by kernel_rfl
theorem rowSetup : 24 < Try.prog.types.size := of_decide_eq_true (by kernel_rfl)
theorem readEnd : Try.prog.readableRec 26 = true := by kernel_rfl
theorem rowEnd : 26 < Try.prog.types.size := of_decide_eq_true (by kernel_rfl)
end Go.Proofs.Ytgmfmmabegcocaa
