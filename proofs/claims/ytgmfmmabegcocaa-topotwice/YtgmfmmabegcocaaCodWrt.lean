/-
  The program's writer of numbers: a box that holds bytes, and what a method of it leaves.
-/
import Derived.Test.YtgmfmmabegcocaaPackRule
import Derived.Test.YtgmfmmabegcocaaKArg
import Derived.Test.YtgmfmmabegcocaaPackCodM
namespace Go.Proofs.Ytgmfmmabegcocaa
set_option maxRecDepth 20000
open Go.RowKit

/-- what a writer's method leaves of all other memory: a block that is neither the writer's nor bytes is as it was -/
structure WStep (b : Nat) (W W' : World) : Prop where
  below : Below b W W'
  keep : ∀ (g : Nat) (cs : Array Value) (T : TypeId) (fr : Nat × Nat), W.heap[g]? = some (.cells cs T fr) → g ≠ b → T ≠ 5 → W'.heap[g]? = W.heap[g]?
section
variable {w0 W W' W'' : World} {b g : Nat} {l : List Int} {cs : Array Value} {T : TypeId}
theorem WStep.refl (b : Nat) (W : World) : WStep b W W := ⟨Below.refl _ _, fun _ _ _ _ _ _ _ => rfl⟩
theorem WStep.trans (h : WStep b W W') (k : WStep b W' W'') : WStep b W W'' := ⟨h.below.trans k.below, fun g cs T fr hg hne hT => (k.keep g cs T fr ((h.keep g cs T fr hg hne hT).trans hg) hne hT).trans (h.keep g cs T fr hg hne hT)⟩
theorem WStep.of (hb : Below W.heap.size W W') (h : b ≤ W.heap.size) : WStep b W W' := ⟨hb.mono h, fun g _ _ _ hg _ _ => hb.block g (Array.getElem?_eq_some_iff.1 hg).1⟩
theorem WStep.blk (h : WStep b W W') (hB : Blk g cs T W) (hne : g ≠ b) (hT : T ≠ 5) : Blk g cs T W' := (h.keep g cs T _ hB hne hT).trans hB
end
theorem fillB (x : Int) : Instr.fill (fun i' => some (i' * 1, 1)) ((Array.range (1 * 1)).map ((#[Value.int .u8 0] : Array Value)[· % (#[Value.int .u8 0] : Array Value).size]!)) [(0, .int .u8 x)] = some #[.int .u8 x] := by kernel_rfl
theorem sh_succ (n : Int) (t : Nat) : n / 2 ^ (8 * (t + 1)) = n / 2 ^ (8 * t) / 256 := by
  rw [Int.ediv_ediv_of_nonneg (by exact_mod_cast Nat.zero_le _), show 8 * (t + 1) = 8 * t + 8 by omega, Int.pow_add]
  rfl
theorem byte_of (x : Int) : IntKind.u8.wrap x = x % 256 := by rw [IntKind.wrap_u8]
/-- an operation that only reads, as an act -/
theorem readWp {o : Oper} {a : Act} {w : World} {Kt : Act → World → Prop} {Q : Exit → Act → World → Prop} (v : Value) (hv : (execOp a.eval o).run Try.prog w = .ok (.value v) w) (h : Kt (a.put o.dst v) w) : o.wp Try.prog a w Kt Q := by
  unfold Oper.wp
  rw [hv]
  exact h
theorem kbuildVWp {α : Type} (K : Kd α) (ok : K.Ok) (zs : Array Value) (hzs : ((Try.prog.info? K.T).bind (·.zero)).map (·.cells) = some zs) {o : Oper} {a : Act} {w : World} {Kt : Act → World → Prop} {Q : Exit → Act → World → Prop} (m : Nat)
    (parts : Array (Nat × Operand)) (ho : o.op = .buildSlice K.S m parts) (vs : List (Nat × Value)) (hv : (parts.map fun (p : Nat × Operand) => (p.1, a.eval p.2)).toList = vs) (cs : Array Value) (hsm : m * K.n ≤ 1000) (hm : 0 < m)
    (hf : Instr.fill (fun i' => some (i' * K.n, K.n)) ((Array.range (m * K.n)).map (zs[· % zs.size]!)) vs = some cs)
    (h : Kt (a.put o.dst (.slice (some ⟨w.heap.size, 0, none⟩) m m)) (w.alloc (.cells cs K.T))) : o.wp Try.prog a w Kt Q := by
  obtain ⟨i, z, hi, hz, hs, hb, hc⟩ := ok.info
  have hzc := zeroOf hzs hi hz
  refine wp_buildSlice K.S K.T m _ ho cs i z ok.under hi hz ?_ ?_ ?_ h
  · rw [hs]; omega
  · rw [hs]
    have := ok.pos
    have : 0 < m * K.n := Nat.mul_pos hm this
    omega
  · rw [hs, hzc]
    exact (congrArg (Instr.fill (fun i' => some (i' * K.n, K.n)) ((Array.range (m * K.n)).map (zs[· % zs.size]!))) hv).trans hf
/-- a store of one cell in the middle of a row, as an act -/
theorem storeCellWp {o : Oper} {a : Act} {w : World} {Kt : Act → World → Prop} {Q : Exit → Act → World → Prop} (ty : TypeId) (x y : Operand) (ho : o.op = .store ty x y)
    (b k : Nat) (v : Value) (hx : a.eval x = .pointer (some ⟨b, k, none⟩)) (hy : a.eval y = v) (h1 : v.oneCell' = true) (ht : w.there b k 1) (hi : (Try.prog.info? ty).map (·.size) = some 1)
    (h : Kt (a.put o.dst undef) (w.setCell ⟨b, k, none⟩ v)) : o.wp Try.prog a w Kt Q := by
  have hc : v.cells = #[v] := by cases v <;> first | rfl | cases h1
  have hq := run_storeCells_cells (P := Try.prog) b k [v] 0 w (fun j hj => by simpa using (ht j (by simpa using hj)).1) (fun j hj => by simpa using (ht j (by simpa using hj)).2) (fun u hu => by simp at hu; subst hu; exact h1)
  have hr : (storeVar ty ⟨b, k, none⟩ v).run Try.prog w = .ok () (w.setCell ⟨b, k, none⟩ v) := by
    cases hq' : Try.prog.info? ty with
    | none => simp [hq'] at hi
    | some i =>
      have hs : i.size = 1 := by simpa [hq'] using hi
      simp only [Nat.add_zero] at hq
      simp [storeVar, sizeOf, typeInfo, hq', hc, hs]
      exact hq
  unfold Oper.wp execOp
  simp only [ho, hx, hy, Instr.storeAt, Instr.sureAddr, Sem.run_bind, Sem.run_pure, Result.andThen_ok, hr]
  exact h
theorem KOwns.one1 {α : Type} {K : Kd α} {base : Nat} {v : Value} {l : List α} {W : World} (h : KOwns K base v l W) : v.oneCell' = true := by
  obtain ⟨p, c, rfl⟩ := h.form
  rfl
end Go.Proofs.Ytgmfmmabegcocaa
