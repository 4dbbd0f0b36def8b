/-
  What the walk of the law TopoTwice holds; setups with a link twice, or with one that ends where it begins.
-/
import Derived.Test.YtgmfmmabegcocaaTopoBackW
import Derived.Test.YtgmfmmabegcocaaSlFrom
namespace Go.Proofs.Ytgmfmmabegcocaa
set_option maxRecDepth 20000
open Go.RowKit

theorem builtN (x y : En) : Try.prog.built 36 [(0, .agg (ecl x).toArray), (1, .agg (ecl y).toArray)] = some (lca (x, y)) := by kernel_rfl
theorem execBuildN {a : Act} {oi : Oper} {w : World} {s t : Operand} (ho : oi.op = .build 36 #[(0, s), (1, t)]) (x y : En) (hx : a.eval s = .agg (ecl x).toArray) (hy : a.eval t = .agg (ecl y).toArray) :
    (execOp a.eval oi).run Try.prog w = .ok (.value (.agg (lca (x, y)))) w := by
  have e : (Instr.build 36 #[(0, .agg (ecl x).toArray), (1, .agg (ecl y).toArray)]).run Try.prog w = .ok (.agg (lca (x, y))) w := run_build w _ _ _ (builtN x y)
  unfold execOp
  simp only [ho, List.map_toArray, List.map_cons, List.map_nil, hx, hy, Sem.run_bind, e, Result.andThen_ok, Sem.run_pure]
theorem elemN : Try.prog.underlying 22 = some (.slice (Try.prog.elem 22)) := by kernel_rfl
theorem sizeElN (w : World) : (Go.sizeOf (Try.prog.elem 22)).run Try.prog w = .ok 4 w := Try.sizeOf36 w
theorem execFromN {a : Act} {oi : Oper} {w : World} {x y : Operand} (ho : oi.op = .slice 22 x (some y) none none) (p : Option Addr) (len cap c : Nat) (hx : a.eval x = .slice p len cap) (hy : a.eval y = .int .i64 (c : Int))
    (hc : c ≤ len) : (execOp a.eval oi).run Try.prog w = .ok (.value (fromV 4 p len cap c)) w := by
  unfold execOp
  simp only [ho, hx, Option.map_some, Option.map_none, hy, Sem.run_bind]
  rw [run_sliceAt_slice (h := elemN), run_slice_l (ht := elemN) (h0 := by omega) (h1 := by omega), sizeElN]
  simp [Result.andThen, sliced, fromV]
theorem infoSl : (Try.prog.info? 22).map (·.size) = some 1 := by kernel_rfl
/-- the link, ahead of the copies -/
structure TtS (w0 : World) (sc : Array Value) (x : Ln) (b7 : Nat) (W : World) : Prop where
  s : Blk w0.heap.size sc 24 W
  b : Blk b7 (lca x) 36 W
  kept : Below w0.heap.size w0 W
  new : w0.heap.size < b7
section
variable {w0 W W' : World} {sc c8 c9 : Array Value} {x : Ln} {b7 b8 b9 B : Nat} {v va : Value}
theorem TtS.below (h : TtS w0 sc x b7 W) (hb : Below W.heap.size W W') : TtS w0 sc x b7 W' := ⟨h.s.below hb, h.b.below hb, h.kept.trans (hb.mono h.kept.size), h.new⟩
/-- the ends turned -/
theorem TtS.swap (h : TtS w0 sc x b7 W) : TtS w0 sc (x.2, x.1) b7 ((W.setCells b7 0 (eca x.2).toList).setCells b7 2 (eca x.1).toList) := by
  have hk : w0.heap.size ≤ b7 := Nat.le_of_lt h.new
  have hs : ∀ (k : Nat) (v : Value) (V : World), Blk w0.heap.size sc 24 V → Blk w0.heap.size sc 24 (V.setCell ⟨b7, k, none⟩ v) := fun k v V hV => (heap_setCell_other V ⟨b7, k, none⟩ _ v (by have := h.new; show w0.heap.size ≠ b7; omega)).trans hV
  refine ⟨hs _ _ _ (hs _ _ _ (hs _ _ _ (hs _ _ _ h.s))), ?_, (((h.kept.setCell hk _).setCell hk _).setCell hk _).setCell hk _, h.new⟩
  exact (((h.b.one (k := 0) (.int .i64 x.2.1)).one (k := 1) (.int .i64 x.2.2)).one (k := 2) (.int .i64 x.1.1)).one (k := 3) (.int .i64 x.1.2)
theorem TtS.row (h : TtS w0 sc x b7 W) {g : Nat} (hg : w0.heap.size < g) (h7 : b7 ≠ g) (cs : Array Value) : TtS w0 sc x b7 (W.setRow g cs) :=
  ⟨(setRow_other _ _ _ _ (by omega)).trans h.s, (setRow_other _ _ _ _ h7).trans h.b, below_setRow h.kept (Nat.le_of_lt hg) _, h.new⟩
/-- the copies too -/
structure TuS (w0 : World) (sc : Array Value) (x : Ln) (b7 b8 : Nat) (c8 : Array Value) (b9 : Nat) (c9 : Array Value) (W : World) : Prop where
  t : TtS w0 sc x b7 W
  p : Blk b8 c8 24 W
  q : Blk b9 c9 24 W
  ge : w0.heap.size < b8 ∧ w0.heap.size < b9 ∧ b8 ≠ b9 ∧ b8 ≠ b7 ∧ b9 ≠ b7
theorem TuS.below (h : TuS w0 sc x b7 b8 c8 b9 c9 W) (hb : Below W.heap.size W W') : TuS w0 sc x b7 b8 c8 b9 c9 W' := ⟨h.t.below hb, h.p.below hb, h.q.below hb, h.ge⟩
theorem TuS.grown (h : TuS w0 sc x b7 b8 c8 b9 c9 W) (hB : w0.heap.size < B ∧ b7 < B ∧ b8 < B ∧ b9 < B) (hv : ∀ k, v.ownBlock = some k → B ≤ k) (hg : W.grownBy W' v.ownBlock) : TuS w0 sc x b7 b8 c8 b9 c9 W' := by
  have hne : ∀ k, k < B → some k ≠ v.ownBlock := fun k hk e => by have := hv k e.symm; omega
  exact ⟨⟨(hg.block _ h.t.s.lt (hne _ hB.1)).trans h.t.s, (hg.block _ h.t.b.lt (hne _ hB.2.1)).trans h.t.b, h.t.kept.grown hg h.t.kept.size (fun k e => by have := hv k e; omega), h.t.new⟩,
    (hg.block _ h.p.lt (hne _ hB.2.2.1)).trans h.p, (hg.block _ h.q.lt (hne _ hB.2.2.2)).trans h.q, h.ge⟩
theorem TuS.lts (h : TuS w0 sc x b7 b8 c8 b9 c9 W) : w0.heap.size < W.heap.size ∧ b7 < W.heap.size ∧ b8 < W.heap.size ∧ b9 < W.heap.size := ⟨h.t.s.lt, h.t.b.lt, h.p.lt, h.q.lt⟩
theorem TuS.set8 (h : TuS w0 sc x b7 b8 c8 b9 c9 W) (u : Value) : TuS w0 sc x b7 b8 (c8.setIfInBounds 3 u) b9 c9 (W.setCell ⟨b8, 3, none⟩ u) := by
  have hs : ∀ {g : Nat} {cs : Array Value} {t : TypeId}, g ≠ b8 → Blk g cs t W → Blk g cs t (W.setCell ⟨b8, 3, none⟩ u) := fun {g _ _} hne hV => (heap_setCell_other W ⟨b8, 3, none⟩ g u hne).trans hV
  exact ⟨⟨hs (by have := h.ge.1; omega) h.t.s, hs (Ne.symm h.ge.2.2.2.1) h.t.b, h.t.kept.setCell (Nat.le_of_lt h.ge.1) _, h.t.new⟩, h.p.one _, hs (Ne.symm h.ge.2.2.1) h.q, h.ge⟩
theorem TuS.set9 (h : TuS w0 sc x b7 b8 c8 b9 c9 W) (u : Value) : TuS w0 sc x b7 b8 c8 b9 (c9.setIfInBounds 3 u) (W.setCell ⟨b9, 3, none⟩ u) := by
  have hs : ∀ {g : Nat} {cs : Array Value} {t : TypeId}, g ≠ b9 → Blk g cs t W → Blk g cs t (W.setCell ⟨b9, 3, none⟩ u) := fun {g _ _} hne hV => (heap_setCell_other W ⟨b9, 3, none⟩ g u hne).trans hV
  exact ⟨⟨hs (by have := h.ge.2.1; omega) h.t.s, hs (Ne.symm h.ge.2.2.2.2) h.t.b, h.t.kept.setCell (Nat.le_of_lt h.ge.2.1) _, h.t.new⟩, hs h.ge.2.2.1 h.p, h.q.one _, h.ge⟩
theorem KOwns.setOther {α : Type} {K : Kd α} {l : List α} (h : KOwns K B v l W) {b k : Nat} (hb : b < B) (u : Value) : KOwns K B v l (W.setCell ⟨b, k, none⟩ u) :=
  h.other fun g hg _ => heap_setCell_other _ _ _ _ (by show g ≠ b; omega)
theorem KOwns.beside {α β : Type} {K : Kd α} {K' : Kd β} {l : List α} {l' : List β} {B' : Nat} (h : KOwns K B v l W) (hv : ∀ k, v.ownBlock = some k → k < B') (ho : KOwns K' B' va l' W) (hg : W.grownBy W' va.ownBlock) : KOwns K B v l W' := by
  rcases h with ⟨h1, h2 | ⟨g, cap, cur, e1, e2, e3, e4⟩⟩
  · exact ⟨h1, .inl h2⟩
  · refine ⟨h1, .inr ⟨g, cap, cur, e1, e2, (hg.block g (Array.getElem?_eq_some_iff.1 e3).1 (fun e => ?_)).trans e3, e4⟩⟩
    have h3 := ho.ge g e.symm
    have h4 := hv g (by rw [e1]; rfl)
    omega
theorem KOwns.liesBelow {α : Type} {K : Kd α} {l : List α} (h : KOwns K B v l W) : ∀ k, v.ownBlock = some k → k < W.heap.size := fun k e => by
  rcases h.2 with ⟨rfl, _⟩ | ⟨g, cap, cur, rfl, _, e3, _⟩
  · cases e
  · injection e with e
    subst e
    exact (Array.getElem?_eq_some_iff.1 e3).1
end
section
variable {U P R : Int} {L : List Ln} {x y : Ln}
/-- a link twice, or turned -/
theorem fault_twice (h : fault U P R L = 0) (hx : y ∈ L) (hy : x = y ∨ x = (y.2, y.1)) : fault U P R (L ++ [x]) = 2 := by
  refine fault_dup (fault_zero h).1 fun hn => ?_
  rw [endsL_append, endsL_one] at hn
  have h1 : y.1 ∈ endsL L ∧ y.2 ∈ endsL L := ⟨List.mem_flatMap.2 ⟨y, hx, by simp⟩, List.mem_flatMap.2 ⟨y, hx, by simp⟩⟩
  have h2 : x.1 ∈ endsL L := by rcases hy with rfl | rfl; exact h1.1; exact h1.2
  exact (List.nodup_append.1 hn).2.2 x.1 h2 x.1 (by simp) rfl
theorem fault_self (h : fault U P R L = 0) (L' : List Ln) (e : En) : fault U P R (L' ++ [(e, e)]) = 2 := by
  refine fault_dup (fault_zero h).1 fun hn => ?_
  rw [endsL_append, endsL_one] at hn
  have := (List.nodup_append.1 hn).2.1
  simp at this
theorem lead_fault {x : En} (h : fault U P R L = 2) : leadV (mapL U P R L) x = (0, 0) ∧ leadB (mapL U P R L) x = false := look_nothing (.inl (by rw [h]; decide))
theorem edg_fault (h : fault U P R L = 2) : edgL U P R L = [] := by unfold edgL; rw [if_neg (by rw [h]; decide)]
end
end Go.Proofs.Ytgmfmmabegcocaa
