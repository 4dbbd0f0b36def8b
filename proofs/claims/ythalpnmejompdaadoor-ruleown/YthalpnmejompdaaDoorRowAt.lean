/-
  Elements of any kind at the head of a block of their own: stores, one more behind the last; rows made by make.
-/
import Derived.Test.YthalpnmejompdaaDoorPackAct
import Derived.OwnWalk
import Derived.Deep.MidRow
namespace Go.Proofs.YthalpnmejompdaaDoor
open Go.RowKit

/-- cells written one behind the other -/
def stM (cur : Array Value) : Nat → List Value → Array Value
  | _, [] => cur
  | o, v :: r => stM (cur.setIfInBounds o v) (o + 1) r
theorem stM_size : ∀ (vs : List Value) (o : Nat) (cur : Array Value), (stM cur o vs).size = cur.size
  | [], _, _ => rfl
  | v :: r, o, cur => by rw [stM, stM_size r]; simp
theorem stM_out : ∀ (vs : List Value) (o : Nat) (cur : Array Value) (j : Nat), j < o ∨ o + vs.length ≤ j → (stM cur o vs)[j]? = cur[j]?
  | [], _, _, _, _ => rfl
  | v :: r, o, cur, j, h => by
    rw [stM, stM_out r (o + 1) _ j (by simp at h; omega), Array.getElem?_setIfInBounds, if_neg (by simp at h; omega)]
theorem stM_in : ∀ (vs : List Value) (o : Nat) (cur : Array Value) (j : Nat) (u : Value), o + vs.length ≤ cur.size → vs[j]? = some u → (stM cur o vs)[o + j]? = some u
  | [], _, _, _, _, _, h => by simp at h
  | v :: r, o, cur, 0, u, hs, h => by
    rw [stM, stM_out r (o + 1) _ _ (by omega), Array.getElem?_setIfInBounds]
    simp at h hs
    simp [h]
    omega
  | v :: r, o, cur, j + 1, u, hs, h => by
    rw [stM, show o + (j + 1) = o + 1 + j by omega]
    exact stM_in r (o + 1) _ j u (by simp at hs ⊢; omega) (by simpa using h)
theorem heap_stM {g : Nat} {t : TypeId} {fr : Nat × Nat} : ∀ (vs : List Value) (o : Nat) (w : World) (cur : Array Value), w.heap[g]? = some (.cells cur t fr) → (w.setCells g o vs).heap[g]? = some (.cells (stM cur o vs) t fr)
  | [], _, _, _, h => h
  | v :: r, o, w, cur, h => by
    have e : (w.setCell ⟨g, o, none⟩ v).heap[g]? = some (.cells (cur.setIfInBounds o v) t fr) := by
      simp only [World.setCell, Array.getElem?_modify]
      rw [if_pos trivial, h]
      rfl
    exact heap_stM r (o + 1) _ _ e
theorem heap_stM_other {g k : Nat} (hk : k ≠ g) : ∀ (vs : List Value) (o : Nat) (w : World), (w.setCells g o vs).heap[k]? = w.heap[k]?
  | [], _, _ => rfl
  | v :: r, o, w => by
    rw [World.setCells, heap_stM_other hk r]
    exact heap_setCell_other w ⟨g, o, none⟩ k v hk
theorem heap_stM_size {g : Nat} : ∀ (vs : List Value) (o : Nat) (w : World), (w.setCells g o vs).heap.size = w.heap.size
  | [], _, _ => rfl
  | v :: r, o, w => by
    rw [World.setCells, heap_stM_size r]
    simp [World.setCell]
theorem grown_stM {g : Nat} : ∀ (vs : List Value) (o : Nat) (w : World), w.grownBy (w.setCells g o vs) (some g)
  | [], _, w => ⟨rfl, rfl, rfl, Nat.le_refl _, fun _ _ _ => rfl⟩
  | v :: r, o, w => by
    have h := grown_stM (g := g) r (o + 1) (w.setCell ⟨g, o, none⟩ v)
    refine ⟨h.os, h.tape, h.output, ?_, fun k hk hn => ?_⟩
    · rw [heap_stM_size]; exact Nat.le_refl _
    · exact heap_stM_other (fun e => hn (by rw [e])) _ _ _
section
variable {α : Type} {K : Kd α} {base g cap : Nat} {l k : List α} {W W' : World}
/-- a list lies at the head of a block of room for so many -/
def KAt (K : Kd α) (g cap : Nat) (l : List α) (W : World) : Prop :=
  l.length ≤ cap ∧ cap ≤ maxLen ∧ ∃ cur, W.heap[g]? = some (.cells cur K.T (0, 0)) ∧ cur.size = cap * K.n ∧ ∀ i a, l[i]? = some a → ∀ j u, (K.cells a)[j]? = some u → cur[i * K.n + j]? = some u
theorem KAt.of (ok : K.Ok) (h : KOwns K base (.slice (some ⟨g, 0, none⟩) l.length cap) l W) : KAt K g cap l W ∧ base ≤ g := by
  rcases h.2 with ⟨e, _⟩ | ⟨g', cap', cur, e1, e2, e3, e4, e5, e6, e7⟩
  · cases e
  · injection e1 with e1 _ ec
    injection e1 with e1
    injection e1 with e1
    subst e1
    subst ec
    refine ⟨⟨e4, e5, cur, e3, e6, fun i a hi j u hu => ?_⟩, e2⟩
    have q := ok.flat_get l i a j u hi hu
    rw [← e7] at q
    have hlt := (List.getElem?_eq_some_iff.1 q).1
    rw [List.getElem?_take_of_lt (by rw [List.length_take] at hlt; omega), Array.getElem?_toList] at q
    exact q
theorem KAt.owns (ok : K.Ok) (h : KAt K g cap l W) (hb : base ≤ g) : KOwns K base (.slice (some ⟨g, 0, none⟩) l.length cap) l W := by
  obtain ⟨h1, h2, cur, h3, h4, h5⟩ := h
  have hle : l.length * K.n ≤ cap * K.n := Nat.mul_le_mul_right _ h1
  refine ⟨ok.flat_len l, .inr ⟨g, cap, cur, rfl, hb, h3, h1, h2, h4, ?_⟩⟩
  apply List.ext_getElem?
  intro t
  by_cases ht : t < l.length * K.n
  · rw [List.getElem?_take_of_lt ht, Array.getElem?_toList]
    have hf : t < (K.flat l).length := by rw [ok.flat_len]; exact ht
    obtain ⟨i, a, m, e1, e2, e3⟩ := ok.flat_nth l t _ (List.getElem?_eq_getElem hf)
    have q := h5 i a e1 m _ e2
    rw [← e3] at q
    rw [q, List.getElem?_eq_getElem hf]
  · rw [List.getElem?_eq_none (by rw [List.length_take]; omega), List.getElem?_eq_none (by rw [ok.flat_len]; omega)]
theorem KAt.lt (h : KAt K g cap l W) : g < W.heap.size := by
  obtain ⟨_, _, cur, h3, _⟩ := h
  exact (Array.getElem?_eq_some_iff.1 h3).1
theorem KAt.same (h : KAt K g cap l W) (hb : W'.heap[g]? = W.heap[g]?) : KAt K g cap l W' := by
  obtain ⟨h1, h2, cur, h3, h4, h5⟩ := h
  exact ⟨h1, h2, cur, hb.trans h3, h4, h5⟩
theorem KAt.below (h : KAt K g cap l W) (hb : Below W.heap.size W W') : KAt K g cap l W' := h.same (hb.block g h.lt)
theorem KAt.range (h : KAt K g cap l W) {i : Nat} {a : α} (hi : l[i]? = some a) : W.rangeAt g (i * K.n) (K.cells a) := by
  obtain ⟨h1, h2, cur, h3, h4, h5⟩ := h
  intro j v hv
  rw [cell_of_row W g _ cur _ _ h3]
  exact h5 i a hi j v hv
theorem KAt.lies (h : KAt K g cap l W) (n : Nat) (hn : n = l.length) (c : Nat) (hc : n ≤ c) : KLies K (.slice (some ⟨g, 0, none⟩) n c) l W := by
  subst hn
  refine .inr ⟨⟨g, 0, none⟩, c, rfl, hc, fun i a hi => ⟨rfl, ?_⟩⟩
  show W.rangeAt g (0 + i * K.n) (K.cells a)
  rw [Nat.zero_add]
  exact h.range hi
theorem KAt.there (h : KAt K g cap l W) {i : Nat} (hi : i < cap) : W.there g (i * K.n) K.n := by
  obtain ⟨h1, h2, cur, h3, h4, h5⟩ := h
  intro j hj
  refine ⟨?_, frozen_of_row _ g _ _ _ h3⟩
  rw [cell_of_row W g _ cur _ _ h3]
  have : i * K.n + j < cur.size := by rw [h4]; have := Nat.mul_le_mul_right K.n (show i + 1 ≤ cap from hi); rw [Nat.succ_mul] at this; omega
  simp [this]
theorem KAt.put (ok : K.Ok) (h : KAt K g cap l W) {i : Nat} (hi : i < cap) (a : α) (hk : k.length ≤ cap) (hka : ∀ b, k[i]? = some b → b = a) (hko : ∀ j, j ≠ i → ∀ b, k[j]? = some b → l[j]? = some b) : KAt K g cap k (W.setCells g (i * K.n) (K.cells a)) := by
  obtain ⟨h1, h2, cur, h3, h4, h5⟩ := h
  refine ⟨hk, h2, stM cur (i * K.n) (K.cells a), heap_stM _ _ _ _ h3, by rw [stM_size]; exact h4, fun t b hb j u hu => ?_⟩
  have hj : j < K.n := by have := (List.getElem?_eq_some_iff.1 hu).1; rwa [ok.len] at this
  have hin : i * K.n + K.n ≤ cur.size := by rw [h4]; have := Nat.mul_le_mul_right K.n (show i + 1 ≤ cap from hi); rw [Nat.succ_mul] at this; omega
  by_cases e : t = i
  · subst e
    rw [hka b hb] at hu
    exact stM_in _ _ _ j _ (by rw [ok.len]; exact hin) hu
  · rw [stM_out _ _ _ _ ?_]
    · exact h5 t b (hko t e b hb) j u hu
    · rw [ok.len]
      rcases Nat.lt_or_gt_of_ne e with q | q
      · have := Nat.mul_le_mul_right K.n (show t + 1 ≤ i from q); rw [Nat.succ_mul] at this; omega
      · have := Nat.mul_le_mul_right K.n (show i + 1 ≤ t from q); rw [Nat.succ_mul] at this; omega
theorem KAt.set (ok : K.Ok) (h : KAt K g cap l W) {i : Nat} (hi : i < l.length) (a : α) : KAt K g cap (l.set i a) (W.setCells g (i * K.n) (K.cells a)) :=
  h.put ok (by have := h.1; omega) a (by have := h.1; simpa using this) (fun b hb => by simpa [hi] using hb.symm) (fun j hj b hb => by rwa [List.getElem?_set_ne (Ne.symm hj)] at hb)
theorem KAt.push (ok : K.Ok) (h : KAt K g cap l W) {i : Nat} (he : i = l.length) (hi : i < cap) (a : α) : KAt K g cap (l ++ [a]) (W.setCells g (i * K.n) (K.cells a)) := by
  subst he
  refine h.put ok hi a (by simp; omega) (fun b hb => by simpa using hb.symm) (fun j hj b hb => ?_)
  have hlt := (List.getElem?_eq_some_iff.1 hb).1
  simp only [List.length_append, List.length_cons, List.length_nil] at hlt
  rwa [List.getElem?_append_left (by omega)] at hb
theorem KAt.cut (h : KAt K g cap l W) (hk : k.length ≤ cap) (he : ∀ (i : Nat) a, k[i]? = some a → l[i]? = some a) : KAt K g cap k W := by
  obtain ⟨h1, h2, cur, h3, h4, h5⟩ := h
  exact ⟨hk, h2, cur, h3, h4, fun i a hi j u hu => h5 i a (he i a hi) j u hu⟩
/-- a store of an element -/
theorem kstore (K : Kd α) (ok : K.Ok) (hinf : (Tryd.prog.info? K.T).map (·.size) = some K.n) {ops : Array Oper} {rest : List Oper} {o : Oper} {a : Act} {w : World} {Q : Exit → Act → World → Prop} (hgd : o.guard = none) (x y : Operand) (ho : o.op = .store K.T x y)
    (g i cap : Nat) (d : List α) (c : α) (hx : a.eval x = .pointer (some ⟨g, i * K.n, none⟩)) (hy : a.eval y = .agg (K.cells c).toArray) (hO : KAt K g cap d w) (hi : i < cap)
    (h : wpList Tryd.prog ops Q rest (a.put o.dst undef) (w.setCells g (i * K.n) (K.cells c))) : wpList Tryd.prog ops Q (o :: rest) a w :=
  wpList_store_mid hgd K.T x y ho g (i * K.n) (K.cells c).toArray hx hy (by rw [List.size_toArray, ok.len]; exact hO.there hi) (by rw [List.size_toArray, ok.len]; exact hinf) (all_oneCell_toArray (ok.one c)) h
/-- a row made by make -/
theorem kmake (K : Kd α) (ok : K.Ok) {ops : Array Oper} {rest : List Oper} {o : Oper} {a : Act} {w : World} {Q : Exit → Act → World → Prop} (hg : o.guard = none) (x y : Operand) (ho : o.op = Op.makeSlice K.S x y)
    (n : Nat) (hx : a.eval x = .int .i64 (n : Int)) (hy : a.eval y = .int .i64 (n : Int)) (hn : n ≤ 1000000)
    (h : ∀ w', KAt K w.heap.size n [] w' → Below w.heap.size w w' → w.heap.size < w'.heap.size → wpList Tryd.prog ops Q rest (a.put o.dst (.slice (some ⟨w.heap.size, 0, none⟩) n n)) w') : wpList Tryd.prog ops Q (o :: rest) a w := by
  obtain ⟨i, z, hi, hz, hsz, hby, hc⟩ := ok.info
  have hl := ok.light hn
  refine wpList_make_full w hg x y K.S ho w.heap.size K.T i z K.n ok.under hi hz hsz .i64 .i64 n n n hx hy rfl rfl (by rw [hby, Nat.mul_comm]; omega) (by unfold maxLen; omega) (Nat.le_refl _) fun w' h1 h2 => ?_
  rcases h1.2 with ⟨e, _⟩ | ⟨g', cap', cur, e1, e2, e3, e4, e5, e6, e7⟩
  · cases e
  · injection e1 with e1 _ ec
    injection e1 with e1
    injection e1 with e1
    subst e1
    subst ec
    refine h w' ⟨Nat.zero_le _, e5, cur, e3, e6, fun i a hi => by simp at hi⟩ (Below.grown (Below.refl _ _) h2 (Nat.le_refl _) (fun k hk => by cases hk)) (Array.getElem?_eq_some_iff.1 e3).1
end
end Go.Proofs.YthalpnmejompdaaDoor
