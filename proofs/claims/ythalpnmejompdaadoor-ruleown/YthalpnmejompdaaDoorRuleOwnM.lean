/-
  Rules and their actions in memory of their own, while some cells are written.
-/
import Derived.Test.YthalpnmejompdaaDoorRuleTab
namespace Go.Proofs.YthalpnmejompdaaDoor
open Go.RowKit

section
variable {α : Type} {K : Kd α} {g cap off : Nat} {l : List α} {W W' : World}
/-- one cell of one element written -/
theorem KAt.cell (ok : K.Ok) (h : KAt K g cap l W) {i m : Nat} {a a' : α} (hi : l[i]? = some a) (u : Value) (hm : m < K.n) (he : K.cells a' = (K.cells a).set m u) : KAt K g cap (l.set i a') (W.setCell ⟨g, i * K.n + m, none⟩ u) := by
  obtain ⟨h1, h2, cur, h3, h4, h5⟩ := h
  have hil : i < l.length := (List.getElem?_eq_some_iff.1 hi).1
  refine ⟨by simpa using h1, h2, cur.setIfInBounds (i * K.n + m) u, heap_setCell_same W g _ cur _ u h3, by simpa using h4, fun t b hb j v hv => ?_⟩
  have hj : j < K.n := by have := (List.getElem?_eq_some_iff.1 hv).1; rwa [ok.len] at this
  have hin : i * K.n + K.n ≤ cur.size := by rw [h4]; have := Nat.mul_le_mul_right K.n (show i + 1 ≤ cap by omega); rw [Nat.succ_mul] at this; omega
  rw [Array.getElem?_setIfInBounds]
  by_cases e : t = i
  · subst e
    have eb : b = a' := by simpa [hil] using hb.symm
    subst eb
    rw [he] at hv
    by_cases ej : j = m
    · subst ej
      rw [if_pos rfl, if_pos (by omega)]
      rw [List.getElem?_set_self (by rw [ok.len]; exact hj)] at hv
      exact hv
    · rw [if_neg (by omega)]
      rw [List.getElem?_set_ne (Ne.symm ej)] at hv
      exact h5 t a hi j v hv
  · rw [List.getElem?_set_ne (Ne.symm e)] at hb
    rw [if_neg ?_]
    · exact h5 t b hb j v hv
    · rcases Nat.lt_or_gt_of_ne e with q | q
      · have := Nat.mul_le_mul_right K.n (show t + 1 ≤ i from q); rw [Nat.succ_mul] at this; omega
      · have := Nat.mul_le_mul_right K.n (show i + 1 ≤ t from q); rw [Nat.succ_mul] at this; omega
/-- a cell behind all elements written -/
theorem KAt.far (ok : K.Ok) (h : KAt K g cap l W) (u : Value) (ho : l.length * K.n ≤ off) : KAt K g cap l (W.setCell ⟨g, off, none⟩ u) := by
  obtain ⟨h1, h2, cur, h3, h4, h5⟩ := h
  refine ⟨h1, h2, cur.setIfInBounds off u, heap_setCell_same W g _ cur _ u h3, by simpa using h4, fun t b hb j v hv => ?_⟩
  have hj : j < K.n := by have := (List.getElem?_eq_some_iff.1 hv).1; rwa [ok.len] at this
  have ht : t < l.length := (List.getElem?_eq_some_iff.1 hb).1
  rw [Array.getElem?_setIfInBounds, if_neg ?_]
  · exact h5 t b hb j v hv
  · have := Nat.mul_le_mul_right K.n (show t + 1 ≤ l.length from ht); rw [Nat.succ_mul] at this; omega
theorem KOwns.kat (ok : K.Ok) {base : Nat} {v : Value} (h : KOwns K base v l W) : (v = .slice none 0 0 ∧ l = []) ∨ ∃ g cap, v = .slice (some ⟨g, 0, none⟩) l.length cap ∧ base ≤ g ∧ KAt K g cap l W := by
  rcases h.2 with ⟨e, h0⟩ | ⟨g, cap, cur, rfl, hg, _⟩
  · exact .inl ⟨e, List.length_eq_zero_iff.1 h0⟩
  · exact .inr ⟨g, cap, rfl, hg, (KAt.of ok h).1⟩
theorem KOwns.keep {base : Nat} {v : Value} (h : KOwns K base v l W) (hb : ∀ k, v.ownBlock = some k → W'.heap[k]? = W.heap[k]?) : KOwns K base v l W' := by
  rcases h with ⟨h1, h2 | ⟨g, cap, cur, e1, e2, e3, e4⟩⟩
  · exact ⟨h1, .inl h2⟩
  · exact ⟨h1, .inr ⟨g, cap, cur, e1, e2, (hb g (by rw [e1]; rfl)).trans e3, e4⟩⟩
end
theorem types_ne : 29 ≠ 42 := by decide
/-- the block of a list of actions is none of rules -/
theorem KOwns.apart {b1 b2 : Nat} {v1 v2 : Value} {l1 : List Ac} {l2 : List Rm} {W W' : World} (h1 : KOwns KA b1 v1 l1 W) (h2 : KOwns KR b2 v2 l2 W) (hg : W.grownBy W' v2.ownBlock) : KOwns KA b1 v1 l1 W' := by
  refine h1.keep fun k hk => ?_
  rcases h1.2 with ⟨e, _⟩ | ⟨g, cap, cur, e, _, e3, _⟩
  · rw [e] at hk; cases hk
  · rw [e] at hk
    injection hk with hk
    have hk' : g = k := hk
    subst hk'
    refine hg.block g (Array.getElem?_eq_some_iff.1 e3).1 fun eo => ?_
    rcases h2.2 with ⟨e', _⟩ | ⟨g', cap', cur', e', _, e3', _⟩
    · rw [e'] at eo; cases eo
    · rw [e'] at eo
      injection eo with eo
      have eo' : g = g' := eo
      subst eo'
      rw [e3] at e3'
      injection e3' with e3'
      injection e3' with _ e3' _
      exact types_ne e3'.symm
/-- rules with their actions, in memory of their own: as they were made, but for the Prios and what the actions are -/
def Shp (g n : Nat) (C : List Rm) (f : Nat → Int) (W : World) : Prop :=
  ∃ D : List Rm, D.length = C.length ∧ KAt KR g n D W ∧ (∀ y ∈ D, OwnA (g + 1) y W) ∧ ∀ (j : Nat) y, D[j]? = some y → ∃ x, C[j]? = some x ∧ y.q = x.q ∧ y.n = x.n ∧ y.c = x.c ∧ y.u.p = f j
section
variable {g n : Nat} {C : List Rm} {f : Nat → Int} {W W' : World}
theorem Shp.start {B : Nat} {w : World} {L : List Rm} (h : CpS B w g L.length L W) : Shp g L.length L (fun j => (nthU L j).p) W :=
  ⟨L, rfl, h.1, h.2.1, fun j y hy => ⟨y, hy, rfl, rfl, rfl, by show y.u.p = (nthU L j).p; rw [nthU_at hy]⟩⟩
theorem Shp.below (h : Shp g n C f W) (hb : Below W.heap.size W W') : Shp g n C f W' := by
  obtain ⟨D, h1, h2, h3, h4⟩ := h
  exact ⟨D, h1, h2.below hb, fun y hy => (h3 y hy).below hb, h4⟩
/-- an action's Port written, wherever -/
theorem own_port {b k j : Nat} {v : Value} {acts : List Ac} {cur : Array Value} (h : KOwns KA b v acts W) (hk : W.heap[k]? = some (.cells cur 42 (0, 0))) (x : Int) :
    ∃ acts', acts'.length = acts.length ∧ KOwns KA b v acts' (W.setCell ⟨k, j * 4 + 1, none⟩ (.int .i64 x)) := by
  rcases h.kat okA with ⟨rfl, rfl⟩ | ⟨g', cp, rfl, hb, hA⟩
  · exact ⟨[], rfl, KOwns.nil _ _⟩
  · by_cases e : g' = k
    · subst e
      cases ha : acts[j]? with
      | none =>
        have hle : acts.length ≤ j := by rw [List.getElem?_eq_none_iff] at ha; exact ha
        exact ⟨acts, rfl, KAt.owns okA (hA.far okA (off := j * 4 + 1) (.int .i64 x) (by show acts.length * 4 ≤ j * 4 + 1; omega)) hb⟩
      | some a =>
        have h2 := hA.cell okA (m := 1) (a' := { a with p := x }) ha (.int .i64 x) (by decide) rfl
        refine ⟨acts.set j { a with p := x }, by simp, ?_⟩
        have h3 := KAt.owns okA h2 hb
        rw [List.length_set] at h3
        exact h3
    · refine ⟨acts, rfl, h.keep fun k' hk' => ?_⟩
      injection hk' with hk'
      have ek : g' = k' := hk'
      exact heap_setCell_other _ _ _ _ (by rw [← ek]; exact e)
theorem Shp.port (h : Shp g n C f W) {k j : Nat} {cur : Array Value} (hk : W.heap[k]? = some (.cells cur 42 (0, 0))) (x : Int) : Shp g n C f (W.setCell ⟨k, j * 4 + 1, none⟩ (.int .i64 x)) := by
  obtain ⟨D, h1, h2, h3, h4⟩ := h
  have hgk : g ≠ k := fun e => by
    subst e
    obtain ⟨_, _, cur', e3, _⟩ := h2
    rw [hk] at e3
    injection e3 with e3
    injection e3 with _ e3 _
    exact types_ne e3.symm
  have hrow : ∀ D' : List Rm, D'.map rcl = D.map rcl → KAt KR g n D' (W.setCell ⟨k, j * 4 + 1, none⟩ (.int .i64 x)) := fun D' he => by
    obtain ⟨q1, q2, cur', q3, q4, q5⟩ := h2
    have hl : D'.length = D.length := by simpa using congrArg List.length he
    refine ⟨by rw [hl]; exact q1, q2, cur', (heap_setCell_other _ _ _ _ hgk).trans q3, q4, fun i a ha t u hu => ?_⟩
    have hh := congrArg (·[i]?) he
    simp only [List.getElem?_map, ha, Option.map_some] at hh
    cases hd : D[i]? with
    | none => rw [hd] at hh; cases hh
    | some d =>
      rw [hd] at hh
      simp only [Option.map_some, Option.some.injEq] at hh
      exact q5 i d hd t u (by show (rcl d)[t]? = some u; rw [← hh]; exact hu)
  have pick : ∀ y, y ∈ D → ∃ acts', acts'.length = y.u.acts.length ∧ KOwns KA (g + 1) (.slice y.q y.n y.c) acts' (W.setCell ⟨k, j * 4 + 1, none⟩ (.int .i64 x)) := fun y hy => own_port (h3 y hy) hk x
  have pick2 : ∃ F : Rm → List Ac, ∀ y, y ∈ D → KOwns KA (g + 1) (.slice y.q y.n y.c) (F y) (W.setCell ⟨k, j * 4 + 1, none⟩ (.int .i64 x)) := by
    classical
    refine ⟨fun y => if hy : ∃ acts', KOwns KA (g + 1) (.slice y.q y.n y.c) acts' (W.setCell ⟨k, j * 4 + 1, none⟩ (.int .i64 x)) then Classical.choose hy else [], fun y hy => ?_⟩
    obtain ⟨a', _, ha'⟩ := pick y hy
    have he : ∃ acts', KOwns KA (g + 1) (.slice y.q y.n y.c) acts' (W.setCell ⟨k, j * 4 + 1, none⟩ (.int .i64 x)) := ⟨a', ha'⟩
    simp only [dif_pos he]
    exact Classical.choose_spec he
  obtain ⟨F, hF⟩ := pick2
  refine ⟨D.map fun y => ⟨{ y.u with acts := F y }, y.q, y.n, y.c⟩, by simpa using h1, hrow _ (by rw [List.map_map]; rfl), fun y hy => ?_, fun i y hy => ?_⟩
  · obtain ⟨d, hd, rfl⟩ := List.mem_map.1 hy
    exact hF d hd
  · rw [List.getElem?_map, Option.map_eq_some_iff] at hy
    obtain ⟨d, hd, rfl⟩ := hy
    exact h4 i d hd
/-- a Prio written in these rules -/
theorem Shp.prio (h : Shp g n C f W) {i : Nat} (x : Int) (hi : i < C.length) : Shp g n C (fun j => if j = i then x else f j) (W.setCell ⟨g, i * 32 + 24, none⟩ (.int .i64 x)) := by
  obtain ⟨D, h1, h2, h3, h4⟩ := h
  obtain ⟨y, hy⟩ := lt_some (l := D) (i := i) (by omega)
  have h5 := h2.cell okR (m := 24) (a' := ⟨{ y.u with p := x }, y.q, y.n, y.c⟩) hy (.int .i64 x) (by decide) rfl
  refine ⟨D.set i ⟨{ y.u with p := x }, y.q, y.n, y.c⟩, by simpa using h1, h5, fun z hz => ?_, fun j z hz => ?_⟩
  · have keep : ∀ d, d ∈ D → OwnA (g + 1) d (W.setCell ⟨g, i * 32 + 24, none⟩ (.int .i64 x)) := fun d hd => KOwns.other (h3 d hd) fun k hk _ => heap_setCell_other _ _ _ _ (by show k ≠ g; omega)
    rcases List.mem_or_eq_of_mem_set hz with hz | rfl
    · exact keep z hz
    · exact keep y (List.mem_of_getElem? hy)
  · by_cases e : j = i
    · subst e
      have hz' : z = ⟨{ y.u with p := x }, y.q, y.n, y.c⟩ := by
        have hlt := (List.getElem?_eq_some_iff.1 hy).1
        simpa [hlt] using hz.symm
      subst hz'
      obtain ⟨c, hc, e1, e2, e3, _⟩ := h4 j y hy
      exact ⟨c, hc, e1, e2, e3, by simp⟩
    · rw [List.getElem?_set_ne (Ne.symm e)] at hz
      obtain ⟨c, hc, e1, e2, e3, e4⟩ := h4 j z hz
      exact ⟨c, hc, e1, e2, e3, by show z.u.p = if j = i then x else f j; rw [e4, if_neg e]⟩
/-- a cell written in a block of rules that is not theirs -/
theorem Shp.beside (h : Shp g n C f W) {k off : Nat} (hk : k ≠ g) {cur : Array Value} (hk2 : W.heap[k]? = some (.cells cur 29 (0, 0))) (v : Value) : Shp g n C f (W.setCell ⟨k, off, none⟩ v) := by
  obtain ⟨D, h1, h2, h3, h4⟩ := h
  refine ⟨D, h1, h2.same (heap_setCell_other _ _ _ _ (Ne.symm hk)), fun y hy => KOwns.keep (h3 y hy) fun k' hk' => ?_, h4⟩
  refine heap_setCell_other _ _ _ _ fun e => ?_
  have e' : k' = k := e
  subst e'
  rcases (h3 y hy).2 with ⟨q, _⟩ | ⟨g', cp, cur', q, _, q3, _⟩
  · rw [q] at hk'; cases hk'
  · rw [q] at hk'
    injection hk' with hk'
    have ek : g' = k' := hk'
    subst ek
    rw [hk2] at q3
    injection q3 with q3
    injection q3 with _ q3 _
    exact types_ne q3
theorem Shp.lt (h : Shp g n C f W) : g < W.heap.size := by
  obtain ⟨D, _, h2, _⟩ := h
  exact h2.lt
end
section
variable {g n i j : Nat} {C : List Rm} {f : Nat → Int} {W : World} {x : Rm}
/-- what the cells of such rules hold -/
theorem Shp.look (h : Shp g n C f W) (hi : C[i]? = some x) : W.cell? ⟨g, i * 32 + 25, none⟩ = some (.slice x.q x.n x.c) ∧ W.cell? ⟨g, i * 32 + 24, none⟩ = some (.int .i64 (f i)) ∧ W.there g (i * 32 + 24) 1 ∧ ∃ cur, W.heap[g]? = some (.cells cur 29 (0, 0)) := by
  obtain ⟨D, h1, h2, h3, h4⟩ := h
  obtain ⟨y, hy⟩ := lt_some (l := D) (i := i) (by rw [h1]; exact (List.getElem?_eq_some_iff.1 hi).1)
  obtain ⟨c, hc, e1, e2, e3, e4⟩ := h4 i y hy
  rw [hi] at hc
  injection hc with hc
  subst hc
  have cc := cellsR_mid (h2.range hy)
  have hth := h2.there (i := i) (by have := h2.1; have := (List.getElem?_eq_some_iff.1 hy).1; omega)
  obtain ⟨_, _, cur, q3, _⟩ := h2
  refine ⟨?_, ?_, fun t ht => ?_, cur, q3⟩
  · rw [← e1, ← e2, ← e3]; exact cc.s
  · rw [← e4]; exact cc.p
  · have := hth (24 + t) (by show 24 + t < 32; omega)
    rwa [show i * KR.n + (24 + t) = i * 32 + 24 + t by show i * 32 + (24 + t) = _; omega] at this
theorem Shp.act (h : Shp g n C f W) (hi : C[i]? = some x) (hj : j < x.n) : ∃ ga pa cur, x.q = some ⟨ga, 0, none⟩ ∧ g + 1 ≤ ga ∧ W.heap[ga]? = some (.cells cur 42 (0, 0)) ∧ W.cell? ⟨ga, j * 4 + 1, none⟩ = some (.int .i64 pa) ∧ W.there ga (j * 4 + 1) 1 := by
  obtain ⟨D, h1, h2, h3, h4⟩ := h
  obtain ⟨y, hy⟩ := lt_some (l := D) (i := i) (by rw [h1]; exact (List.getElem?_eq_some_iff.1 hi).1)
  obtain ⟨c, hc, e1, e2, e3, e4⟩ := h4 i y hy
  rw [hi] at hc
  injection hc with hc
  subst hc
  rcases (h3 y (List.mem_of_getElem? hy)).kat okA with ⟨e, _⟩ | ⟨ga, cp, e, hb, hA⟩
  · injection e with _ en _
    omega
  · injection e with eq en ec
    obtain ⟨a, ha⟩ := lt_some (l := y.u.acts) (i := j) (by omega)
    have hr := hA.range ha
    have hth := hA.there (i := j) (by have := hA.1; omega)
    obtain ⟨_, _, cur, q3, _⟩ := hA
    refine ⟨ga, a.p, cur, by rw [← e1, eq], hb, q3, hr 1 _ rfl, fun t ht => ?_⟩
    have := hth (1 + t) (by show 1 + t < 4; omega)
    rwa [show j * KA.n + (1 + t) = j * 4 + 1 + t by show j * 4 + (1 + t) = _; omega] at this
theorem Shp.xn (h : Shp g n C f W) (hi : C[i]? = some x) : x.n ≤ maxLen := by
  obtain ⟨D, h1, h2, h3, h4⟩ := h
  obtain ⟨y, hy⟩ := lt_some (l := D) (i := i) (by rw [h1]; exact (List.getElem?_eq_some_iff.1 hi).1)
  obtain ⟨c, hc, e1, e2, e3, e4⟩ := h4 i y hy
  rw [hi] at hc
  injection hc with hc
  subst hc
  rcases (h3 y (List.mem_of_getElem? hy)).kat okA with ⟨e, _⟩ | ⟨ga, cp, e, hb, hA⟩
  · injection e with _ en _
    omega
  · injection e with eq en ec
    have := hA.1
    have := hA.2.1
    omega
end
/-- the list of the law while it is made -/
def InS (w0 : World) (vin : Value) (In : List Rm) (W : World) : Prop := KOwns KR w0.heap.size vin In W ∧ (∀ y ∈ In, OwnA w0.heap.size y W) ∧ Below w0.heap.size w0 W
section
variable {w0 W W' : World} {vin : Value} {In : List Rm}
theorem InS.below (hb : Below W.heap.size W W') (h : InS w0 vin In W) : InS w0 vin In W' := ⟨h.1.below hb, fun y hy => (h.2.1 y hy).below hb, h.2.2.trans (hb.mono h.2.2.size)⟩
theorem InS.lies (h : InS w0 vin In W) : RLies vin In W := ⟨h.1.lies okR, fun y hy => (h.2.1 y hy).inA⟩
theorem InS.push (h : InS w0 vin In W) {y : Rm} (hy : OwnA w0.heap.size y W) {v' : Value} (ho : KOwns KR w0.heap.size v' (In ++ [y]) W') (hg : W.grownBy W' vin.ownBlock) : InS w0 v' (In ++ [y]) W' := by
  refine ⟨ho, fun z hz => ?_, kbelowOwn h.2.2 h.1 (Nat.le_refl _) hg⟩
  rcases List.mem_append.1 hz with hz | hz
  · exact KOwns.apart (h.2.1 z hz) h.1 hg
  · simp only [List.mem_cons, List.not_mem_nil, or_false] at hz
    subst hz
    exact KOwns.apart hy h.1 hg
end
end Go.Proofs.YthalpnmejompdaaDoor
