/-
  The reference's Encode.
-/
import Derived.Test.YtndgbgolmpoepaaDoorCodRen
import Derived.Test.YtndgbgolmpoepaaDoorCodEnc
import Derived.Deep.DeepCutAuto
namespace Go.Proofs.YtndgbgolmpoepaaDoor
set_option maxRecDepth 20000
open Go.RowKit

/-- the cells of the change in a message's box -/
theorem Blk.cellsGM {b : Nat} {g : Gm} {t : TypeId} {W : World} (h : Blk b (gca g) t W) : W.cell? ⟨b, 3, none⟩ = some (.int .i64 g.mod.u.kind) ∧ W.rangeAt b 4 (cl g.mod.u.m) ∧ W.cell? ⟨b, 28, none⟩ = some (.int .i64 g.mod.u.p) ∧ W.cell? ⟨b, 29, none⟩ = some (.slice g.mod.q g.mod.n g.mod.c) ∧ W.cell? ⟨b, 30, none⟩ = some (.int .i64 g.mod.u.idle) ∧
    W.cell? ⟨b, 31, none⟩ = some (.int .i64 g.mod.u.hard) ∧ W.cell? ⟨b, 32, none⟩ = some (.int .i64 g.mod.u.owner) ∧ W.cell? ⟨b, 33, none⟩ = some (.bool g.mod.u.chk) := by
  have r := h.cellsG.mod
  refine ⟨r 0 _ rfl, fun j x hx => ?_, r 25 _ (mcl_ge g.mod 0), r 26 _ (mcl_ge g.mod 1), r 27 _ (mcl_ge g.mod 2), r 28 _ (mcl_ge g.mod 3), r 29 _ (mcl_ge g.mod 4), r 30 _ (mcl_ge g.mod 5)⟩
  have := r (1 + j) x (mcl_mid g.mod hx)
  rwa [show 3 + (1 + j) = 4 + j by omega] at this
theorem headCell {b : Nat} {g : Gm} {t : TypeId} {W : World} (h : Blk b (gca g) t W) {j : Nat} (hj : j < 12) : W.cell? ⟨b, 35 + j, none⟩ = some (.int .u64 (g.head j)) := by
  have r := h.cellsG.head
  have := r j (.int .u64 (g.head j)) (by
    have := hc_at g.head j hj
    rw [← Array.getElem?_toList] at this
    exact this)
  exact this

theorem kappendP {ops : Array Oper} {rest : List Oper} {o : Oper} {a : Act} {w W : World} {Q : Exit → Act → World → Prop} {cs : Array Value} {T : TypeId} {v u : Value} {l k : List Int} (hgd : o.guard = none) (s x : Operand)
    (ho : o.op = .call { callee := .builtin .append, args := #[s, x], argTypes := #[36, 36] }) (hO : OuS w cs T v l W) (hs : a.eval s = v) (hx : a.eval x = u) (hk : KLies KB u k W) (hlen : l.length + k.length ≤ 1000000000)
    (h : ∀ v' W', OuS w cs T v' (l ++ k) W' → (∀ (g : Nat) (ds : Array Value) (T' : TypeId), Blk g ds T' W → T' ≠ 5 → Blk g ds T' W') → wpList Tryd.prog ops Q rest (a.put o.dst v') W') : wpList Tryd.prog ops Q (o :: rest) a W :=
  kappendB KB okB hgd s x ho (w.heap.size + 1) v l k hs hO.2.1 u hx hk hO.le (by show (l.length + k.length) * 1 ≤ _; omega) fun v' W' h1 h2 => h v' W' (hO.grow h1 h2) fun g ds T' hB hT =>
    (h2.block g hB.lt fun e => by
      rcases hO.2.1.2 with ⟨e1, _⟩ | ⟨g', cap', cur', e1, _, e3, _⟩
      · rw [e1] at e; cases e
      · rw [e1] at e
        injection e with e
        have e' : g = g' := e
        subst e'
        have hB' : W.heap[g]? = some (.cells ds T' (0, 0)) := hB
        rw [hB'] at e3
        injection e3 with e3
        injection e3 with _ e3 _
        exact hT e3).trans hB
end Go.Proofs.YtndgbgolmpoepaaDoor
