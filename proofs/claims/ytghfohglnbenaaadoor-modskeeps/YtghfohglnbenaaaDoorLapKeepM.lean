/-
  Rules of one's own while the Ports of their actions are written.
-/
import Derived.Test.YtghfohglnbenaaaDoorPackRule
namespace Go.Proofs.YtghfohglnbenaaaDoor
open Go.RowKit

/-- rules of one's own, from a block on, with actions of their own: as they were made, but for what the actions are -/
def ShK (B : Nat) (v : Value) (C : List Rm) (W : World) : Prop :=
  ∃ D : List Rm, D.length = C.length ∧ KOwns KR B v D W ∧ (∀ y ∈ D, OwnA B y W) ∧ ∀ (j : Nat) y, D[j]? = some y → ∃ x, C[j]? = some x ∧ y.q = x.q ∧ y.n = x.n ∧ y.c = x.c
section
variable {B i j : Nat} {v : Value} {C : List Rm} {W W' : World} {x : Rm}
theorem ShK.start (h : KOwns KR B v C W) (ho : ∀ y ∈ C, OwnA B y W) : ShK B v C W := ⟨C, rfl, h, ho, fun _ y hy => ⟨y, hy, rfl, rfl, rfl⟩⟩
theorem ShK.below (hb : Below W.heap.size W W') (h : ShK B v C W) : ShK B v C W' := by
  obtain ⟨D, h1, h2, h3, h4⟩ := h
  exact ⟨D, h1, h2.below hb, fun y hy => (h3 y hy).below hb, h4⟩
theorem flat_same : ∀ (D D' : List Rm), D'.map rcl = D.map rcl → KR.flat D' = KR.flat D
  | [], [], _ => rfl
  | [], _ :: _, h => by simp at h
  | _ :: _, [], h => by simp at h
  | d :: D, d' :: D', h => by
    simp only [List.map_cons, List.cons.injEq] at h
    have := flat_same D D' h.2
    unfold Kd.flat at *
    simp only [List.flatMap_cons, this]
    rw [h.1]
theorem ShK.port (h : ShK B v C W) {k : Nat} {cur : Array Value} (hk : W.heap[k]? = some (.cells cur 51 (0, 0))) (z : Int) : ShK B v C (W.setCell ⟨k, j * 4 + 1, none⟩ (.int .i64 z)) := by
  obtain ⟨D, h1, h2, h3, h4⟩ := h
  have hrow : ∀ D' : List Rm, D'.map rcl = D.map rcl → KOwns KR B v D' (W.setCell ⟨k, j * 4 + 1, none⟩ (.int .i64 z)) := fun D' he => by
    have hl : D'.length = D.length := by simpa using congrArg List.length he
    have hkeep : KOwns KR B v D (W.setCell ⟨k, j * 4 + 1, none⟩ (.int .i64 z)) := h2.keep fun g hg => by
      refine heap_setCell_other _ _ _ _ fun e => ?_
      have e' : g = k := e
      subst e'
      rcases h2.2 with ⟨q, _⟩ | ⟨g', cp, cur', q, _, q3, _⟩
      · rw [q] at hg; cases hg
      · rw [q] at hg
        injection hg with hg
        have ek : g' = g := hg
        subst ek
        rw [hk] at q3
        injection q3 with q3
        injection q3 with _ q3 _
        exact types_ne q3.symm
    unfold KOwns at hkeep ⊢
    rw [hl, flat_same D D' he]
    exact hkeep
  have pick2 : ∃ F : Rm → List Ac, ∀ y, y ∈ D → KOwns KA B (.slice y.q y.n y.c) (F y) (W.setCell ⟨k, j * 4 + 1, none⟩ (.int .i64 z)) := by
    classical
    refine ⟨fun y => if hy : ∃ acts', KOwns KA B (.slice y.q y.n y.c) acts' (W.setCell ⟨k, j * 4 + 1, none⟩ (.int .i64 z)) then Classical.choose hy else [], fun y hy => ?_⟩
    obtain ⟨a', _, ha'⟩ := own_port (j := j) (h3 y hy) hk z
    have he : ∃ acts', KOwns KA B (.slice y.q y.n y.c) acts' (W.setCell ⟨k, j * 4 + 1, none⟩ (.int .i64 z)) := ⟨a', ha'⟩
    simp only [dif_pos he]
    exact Classical.choose_spec he
  obtain ⟨F, hF⟩ := pick2
  refine ⟨D.map fun y => ⟨{ y.u with acts := F y }, y.q, y.n, y.c⟩, by simpa using h1, hrow _ (by rw [List.map_map]; rfl), fun y hy => ?_, fun i y hy => ?_⟩
  · obtain ⟨d, hd, rfl⟩ := List.mem_map.1 hy
    exact hF d hd
  · rw [List.getElem?_map, Option.map_eq_some_iff] at hy
    obtain ⟨d, hd, rfl⟩ := hy
    exact h4 i d hd
theorem ShK.look {p : Option Addr} {n cap : Nat} (h : ShK B (.slice p n cap) C W) (hi : C[i]? = some x) : ∃ g, p = some ⟨g, 0, none⟩ ∧ W.cell? ⟨g, i * 32 + 25, none⟩ = some (.slice x.q x.n x.c) := by
  obtain ⟨D, h1, h2, h3, h4⟩ := h
  obtain ⟨y, hy⟩ := lt_some (l := D) (i := i) (by rw [h1]; exact (List.getElem?_eq_some_iff.1 hi).1)
  obtain ⟨c, hc, e1, e2, e3⟩ := h4 i y hy
  rw [hi] at hc
  injection hc with hc
  subst hc
  rcases h2.kat okR with ⟨_, e⟩ | ⟨g, cp, e, _, hA⟩
  · rw [e] at hy; cases hy
  · injection e with e _ _
    refine ⟨g, e, ?_⟩
    rw [← e1, ← e2, ← e3]
    exact (cellsR_mid (hA.range hy)).s
theorem ShK.act (h : ShK B v C W) (hi : C[i]? = some x) (hj : j < x.n) : ∃ ga pa cur, x.q = some ⟨ga, 0, none⟩ ∧ B ≤ ga ∧ W.heap[ga]? = some (.cells cur 51 (0, 0)) ∧ W.cell? ⟨ga, j * 4 + 1, none⟩ = some (.int .i64 pa) ∧ W.there ga (j * 4 + 1) 1 := by
  obtain ⟨D, h1, h2, h3, h4⟩ := h
  obtain ⟨y, hy⟩ := lt_some (l := D) (i := i) (by rw [h1]; exact (List.getElem?_eq_some_iff.1 hi).1)
  obtain ⟨c, hc, e1, e2, e3⟩ := h4 i y hy
  rw [hi] at hc
  injection hc with hc
  subst hc
  rcases (h3 y (List.mem_of_getElem? hy)).kat okA with ⟨e, _⟩ | ⟨ga, cp, e, hb, hA⟩
  · injection e with _ en _
    omega
  · injection e with eq en ec
    obtain ⟨a, ha⟩ := lt_some (l := y.u.acts) (i := j) (by omega)
    have hr := hA.range ha
    have hth := hA.there (i := j) (by have := hA.1; omega)
    obtain ⟨_, _, cur, q3, _⟩ := hA
    refine ⟨ga, a.p, cur, by rw [← e1, eq], hb, q3, hr 1 _ rfl, fun t ht => ?_⟩
    have := hth (1 + t) (by show 1 + t < 4; omega)
    rwa [show j * KA.n + (1 + t) = j * 4 + 1 + t by show j * 4 + (1 + t) = _; omega] at this
theorem ShK.xn (h : ShK B v C W) (hi : C[i]? = some x) : x.n ≤ maxLen := by
  obtain ⟨D, h1, h2, h3, h4⟩ := h
  obtain ⟨y, hy⟩ := lt_some (l := D) (i := i) (by rw [h1]; exact (List.getElem?_eq_some_iff.1 hi).1)
  obtain ⟨c, hc, e1, e2, e3⟩ := h4 i y hy
  rw [hi] at hc
  injection hc with hc
  subst hc
  rcases (h3 y (List.mem_of_getElem? hy)).kat okA with ⟨e, _⟩ | ⟨ga, cp, e, hb, hA⟩
  · injection e with _ en _
    omega
  · injection e with eq en ec
    have := hA.1
    have := hA.2.1
    omega
end
end Go.Proofs.YtghfohglnbenaaaDoor
