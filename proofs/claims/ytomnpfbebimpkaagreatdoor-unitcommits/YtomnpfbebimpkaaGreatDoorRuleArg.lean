/-
  Rules that come in, by value and in slices, opened; how long their actions can be.
-/
import Derived.Test.YtomnpfbebimpkaaGreatDoorKArg
import Derived.SizedLaws
import Derived.Test.YtomnpfbebimpkaaGreatDoorCubeArg
import Derived.Test.YtomnpfbebimpkaaGreatDoorPackRule
namespace Go.Proofs.YtomnpfbebimpkaaGreatDoor
set_option maxRecDepth 20000
open Go.ChangeShapes Go.WideShapes Go.ChangeAt Go.RowKit
section
variable {H : Type} {enc : TypeId × Value → H} {W : World} {base : Nat} {sp : Nat → Bool} {held : Bool}
theorem weightsAll_mem {P : Program} {e : TypeId} : ∀ {l : List (DataW H)} {d : DataW H}, d ∈ l → ∀ n ∈ d.weights P e, n ∈ DataW.weightsAll P e l
  | [], _, h, _, _ => by cases h
  | d0 :: r, d, h, n, hn => by
    simp only [DataW.weightsAll, List.mem_append]
    rcases List.mem_cons.1 h with rfl | h
    · exact .inl hn
    · exact .inr (weightsAll_mem h n hn)
/-- a slice's cell, opened: its elements, how long it can be -/
theorem trod_kind {α : Type} (K : Kd α) (ok : K.Ok) (Wf : α → Prop) (hcells : Tryz.prog.cellsOf K.T = K.n)
    (helt : ∀ (fuel : Nat) (cs : List Value) (x : DataW H × List MemPlace), DataW.trod enc Tryz.prog W base sp held fuel K.T cs = some x → (∀ n ∈ x.1.weights Tryz.prog K.T, n ≤ reachBytes) → ∃ a, cs = K.cells a ∧ Wf a)
    {fuel : Nat} {cs : List Value} {x : DataW H × List MemPlace} (hf : DataW.trod enc Tryz.prog W base sp held fuel K.S cs = some x) (hwt : ∀ n ∈ x.1.weights Tryz.prog K.S, n ≤ reachBytes) :
    ∃ (q : Option Addr) (n c : Nat) (l : List α), cs = [.slice q n c] ∧ KLies K (.slice q n c) l W ∧ (∀ a ∈ l, Wf a) ∧ l.length * Tryz.prog.bytesOf K.T ≤ reachBytes := by
  rcases Deep.open_slice ok.under hf with ⟨h0, _⟩ | ⟨a, len, cap, m, n, D, Pl, h0, _, hl, hm, hmm, hxe, hx⟩
  · exact ⟨none, 0, 0, [], h0, .inl ⟨rfl, rfl⟩, fun x hx => (by cases hx), by simp⟩
  · have hlm : len ≤ m := by rw [hmm]; split <;> omega
    have hw1 : ∀ i, i < m → ∀ k ∈ (D i).weights Tryz.prog K.T, k ≤ reachBytes := fun i hi k hk => by
      refine hwt k ?_
      rw [hxe]
      simp only [DataW.weights, ok.under, List.mem_cons, List.mem_append]
      by_cases hil : i < len
      · exact .inr (.inl (weightsAll_mem (List.mem_map.2 ⟨i, List.mem_range.2 hil, rfl⟩) k hk))
      · exact .inr (.inr (weightsAll_mem (List.mem_map.2 ⟨i - len, List.mem_range.2 (by omega), by simp only [show len + (i - len) = i by omega]⟩) k hk))
    have hw0 : len * Tryz.prog.bytesOf K.T ≤ reachBytes := by
      have := hwt ((len + (m - len)) * Tryz.prog.bytesOf K.T) (by rw [hxe]; simp [DataW.weights, ok.under])
      exact Nat.le_trans (Nat.mul_le_mul_right _ (by omega)) this
    by_cases hz : len = 0
    · subst hz
      exact ⟨some a, 0, cap, [], h0, .inr ⟨a, cap, rfl, Nat.zero_le _, fun i x hi => by simp at hi⟩, fun x hx => (by cases hx), by simp⟩
    have each : ∀ i, i < len → ∃ c : α, (∀ j, j < K.n → W.cell? ((a.add (i * K.n)).add j) = (K.cells c)[j]?) ∧ Wf c := by
      intro i hi
      obtain ⟨cs', h1, h2⟩ := hx i (by omega)
      rw [hcells] at h1
      obtain ⟨_, _, hcell⟩ := World.cells?_some h1
      obtain ⟨c, rfl, hw⟩ := helt _ _ _ h2 (hw1 i (by omega))
      exact ⟨c, hcell, hw⟩
    obtain ⟨c0, _⟩ := each 0 (by omega)
    have hs : a.spot = none := by
      obtain ⟨c, hc, _⟩ := each 0 (by omega)
      have q := hc 0 ok.pos
      have hp : 0 < (K.cells c).length := by rw [ok.len]; exact ok.pos
      have e0 : (a.add (0 * K.n)).add 0 = a := by simp [Addr.add]
      rw [e0, List.getElem?_eq_getElem hp] at q
      exact spot_ofK q
    have pick : ∃ f : Nat → α, ∀ i, i < len → (∀ j, j < K.n → W.cell? ((a.add (i * K.n)).add j) = (K.cells (f i))[j]?) ∧ Wf (f i) := by
      refine ⟨fun i => if hi : i < len then Classical.choose (each i hi) else c0, fun i hi => ?_⟩
      simp only [dif_pos hi]
      exact Classical.choose_spec (each i hi)
    obtain ⟨f, hf'⟩ := pick
    refine ⟨some a, len, cap, (List.range len).map f, h0, .inr ⟨a, cap, by simp, by simpa using hl, fun i c hi => ⟨hs, ?_⟩⟩, fun x hx => ?_, by simpa using hw0⟩
    · have hi' : i < len := by have := (List.getElem?_eq_some_iff.1 hi).1; simpa using this
      have e : f i = c := by simpa [hi'] using hi
      subst e
      intro j u hu
      have hj : j < K.n := by have := (List.getElem?_eq_some_iff.1 hu).1; rwa [ok.len] at this
      have q := (hf' i hi').1 j hj
      rw [hu] at q
      obtain ⟨bb, oo, ss⟩ := a
      have e : ss = none := hs
      subst e
      rw [Addr.add_mid, Addr.add_mid] at q
      exact q
    · simp only [List.mem_map, List.mem_range] at hx
      obtain ⟨i, hi, rfl⟩ := hx
      exact (hf' i hi).2
theorem reach_le : reachBytes ≤ 140737488355328 := by decide
theorem bytesAct : Tryz.prog.bytesOf 83 = 32 := by kernel_rfl
theorem drop_cons {α : Type} : ∀ (l : List α) (k : Nat) (x : α), (l.drop k).take 1 = [x] → l.drop k = x :: l.drop (k + 1)
  | l, k, x, h => by
    cases hd : l.drop k with
    | nil => rw [hd] at h; cases h
    | cons y r =>
      rw [hd] at h
      simp at h
      subst h
      have : l.drop (k + 1) = (l.drop k).drop 1 := by rw [List.drop_drop]
      rw [this, hd]
      rfl
theorem i64_of {n : Int} (h : (Lit.int .i64 n).wf = true) : I64 n := by
  simp only [Lit.wf, Bool.and_eq_true, decide_eq_true_eq] at h
  have e1 : IntKind.i64.max = 9223372036854775807 := by decide
  have e2 : IntKind.i64.min = -9223372036854775808 := by decide
  rw [e1, e2] at h
  exact h
theorem light_of {ts : List TypeId} {ds : List (DataW H)} (hsz : (DataW.weightsEach Tryz.prog ts ds).all (· ≤ reachBytes) = true) {j : Nat} {t : TypeId} {d : DataW H} (ht : ts[j]? = some t) (hd : ds[j]? = some d) : ∀ n ∈ d.weights Tryz.prog t, n ≤ reachBytes := fun n hn => by
  have := List.all_eq_true.1 hsz n (DataW.weights_mem_each ht hd n hn)
  simpa using this
end
end Go.Proofs.YtomnpfbebimpkaaGreatDoor
