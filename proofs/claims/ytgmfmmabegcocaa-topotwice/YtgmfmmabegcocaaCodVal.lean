/-
  Messages in memory: their cells; a box of a message, its parts.
-/
import Derived.Test.YtgmfmmabegcocaaCodGet
import Derived.Test.YtgmfmmabegcocaaPackMod
import Derived.Test.YtgmfmmabegcocaaModSam
namespace Go.Proofs.Ytgmfmmabegcocaa
set_option maxRecDepth 20000
open Go.RowKit

/-- a message in memory: its change with where the actions lie, where its rules lie, how many, how much room -/
structure Gm where
  kind : Int
  txn : Int
  e : Int
  mod : Mm
  port : Int
  head : Nat → Int
  q : Option Addr
  n : Nat
  c : Nat
  rs : List Rm
def Gm.u (g : Gm) : Ms := ⟨g.kind, g.txn, g.e, g.mod.u, g.port, g.head, g.rs.map (·.u)⟩
def ghd (g : Gm) : List Value := [.int .i64 g.kind, .int .i64 g.txn, .int .i64 g.e]
def gtl (g : Gm) : List Value := .int .i64 g.port :: (hl g.head ++ [.slice g.q g.n g.c])
def gcl (g : Gm) : List Value := ghd g ++ (mcl g.mod ++ gtl g)
def gca (g : Gm) : Array Value := (gcl g).toArray
theorem mcl_len (m : Mm) : (mcl m).length = 31 := by simp [mcl, mtl, cl]
section
variable {W W' : World} {g : Gm} {b : Nat} {t : TypeId}
theorem gcl_mod (g : Gm) {j : Nat} {x : Value} (h : (mcl g.mod)[j]? = some x) : (gcl g)[3 + j]? = some x := by
  unfold gcl
  rw [List.getElem?_append_right (by show 3 ≤ 3 + j; omega)]
  show (mcl g.mod ++ gtl g)[3 + j - 3]? = some x
  rw [show 3 + j - 3 = j by omega, List.getElem?_append_left (List.getElem?_eq_some_iff.1 h).1]
  exact h
theorem gcl_tl (g : Gm) (j : Nat) : (gcl g)[34 + j]? = (gtl g)[j]? := by
  unfold gcl
  rw [List.getElem?_append_right (by show 3 ≤ 34 + j; omega)]
  show (mcl g.mod ++ gtl g)[34 + j - 3]? = _
  rw [List.getElem?_append_right (by rw [mcl_len]; omega), mcl_len, show 34 + j - 3 - 31 = j by omega]
theorem Blk.rangeG (h : Blk b (gca g) t W) : W.rangeAt b 0 (gcl g) := fun j x hx => by
  rw [Nat.zero_add, cell_of_row W b j _ _ _ h]
  unfold gca
  simpa using hx
/-- the cells of a message that lies at a place -/
structure CellsG (W : World) (b : Nat) (g : Gm) : Prop where
  kind : W.cell? ⟨b, 0, none⟩ = some (.int .i64 g.kind)
  txn : W.cell? ⟨b, 1, none⟩ = some (.int .i64 g.txn)
  e : W.cell? ⟨b, 2, none⟩ = some (.int .i64 g.e)
  mod : W.rangeAt b 3 (mcl g.mod)
  port : W.cell? ⟨b, 34, none⟩ = some (.int .i64 g.port)
  head : W.rangeAt b 35 (hl g.head)
  rules : W.cell? ⟨b, 47, none⟩ = some (.slice g.q g.n g.c)
theorem Blk.cellsG (h : Blk b (gca g) t W) : CellsG W b g := by
  have r := h.rangeG
  have e : ∀ k, 0 + k = k := fun k => Nat.zero_add k
  exact ⟨e 0 ▸ r 0 _ rfl, e 1 ▸ r 1 _ rfl, e 2 ▸ r 2 _ rfl, fun j x hx => by have := r (3 + j) x (gcl_mod g hx); rwa [Nat.zero_add] at this, e 34 ▸ r 34 _ (gcl_tl g 0), fun j x hx => by
    have := r (34 + (1 + j)) x (by
      rw [gcl_tl]
      unfold gtl
      rw [Nat.add_comm 1 j, List.getElem?_cons_succ, List.getElem?_append_left (List.getElem?_eq_some_iff.1 hx).1]
      exact hx)
    rwa [Nat.zero_add, show 34 + (1 + j) = 35 + j by omega] at this, e 47 ▸ r 47 _ (gcl_tl g 13)⟩
end
/-- the change of nothing, in memory; the message of nothing -/
def zMm : Mm := ⟨zMu, none, 0, 0⟩
def zGm : Gm := ⟨0, 0, 0, zMm, 0, zHd, none, 0, 0, []⟩
theorem zGm_u : zGm.u = zMs := rfl
end Go.Proofs.Ytgmfmmabegcocaa
