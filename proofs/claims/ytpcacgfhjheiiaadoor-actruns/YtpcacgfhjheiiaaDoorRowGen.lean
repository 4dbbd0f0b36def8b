/-
  Slices of elements of any kind: a kind has a type, a slice's type, a number of cells. Slices that lie in memory, slices of one's own, append.
-/
import Derived.Test.YtpcacgfhjheiiaaDoorCubeMeet
import Derived.Deep.AppendLies
import Derived.Great.BuildSlice
import Derived.Laws.OwnMore
import Derived.Maps.AppendAt
import Derived.Laws.AppendOwnNone
import Derived.Shelf.Abstract
namespace Go.Proofs.YtpcacgfhjheiiaaDoor
open Go.RowKit

/-- a kind of element: its type and its slice's type, its number of cells and of bytes, the cells of one -/
structure Kd (α : Type) where
  T : TypeId
  S : TypeId
  n : Nat
  room : Nat
  cells : α → List Value
section
variable {α : Type}
/-- the program lays out a kind as it says -/
structure Kd.Ok (K : Kd α) : Prop where
  pos : 0 < K.n
  len : ∀ a, (K.cells a).length = K.n
  one : ∀ a u, u ∈ K.cells a → u.oneCell' = true
  under : Tryd.prog.underlying K.S = some (.slice K.T)
  info : ∃ i z, Tryd.prog.info? K.T = some i ∧ i.zero = some z ∧ i.size = K.n ∧ i.bytes = K.room ∧ z.cells.size = K.n
  small : K.room ≤ 1000
  room1 : 0 < K.room
/-- the cells of a list, one behind the other -/
def Kd.flat (K : Kd α) (l : List α) : List Value := l.flatMap K.cells
/-- a slice value holds a list, in memory of its own from a block on -/
def KOwns (K : Kd α) (base : Nat) (v : Value) (l : List α) (W : World) : Prop := W.ownsRow base K.T K.n v l.length (K.flat l)
/-- a slice holds a list that lies in memory -/
def KLies (K : Kd α) (v : Value) (l : List α) (W : World) : Prop :=
  (v = .slice none 0 0 ∧ l = []) ∨ ∃ (ad : Addr) (cap : Nat), v = .slice (some ad) l.length cap ∧ l.length ≤ cap ∧ ∀ i a, l[i]? = some a → ad.spot = none ∧ W.rangeAt ad.block (ad.off + i * K.n) (K.cells a)
variable {K : Kd α} {base : Nat} {v : Value} {l k : List α} {W W' : World} {p : Option Addr} {n cap : Nat}
theorem Kd.Ok.flat_len (ok : K.Ok) : ∀ l : List α, (K.flat l).length = l.length * K.n
  | [] => by simp [Kd.flat]
  | a :: l => by
    have := ok.flat_len l
    unfold Kd.flat at this ⊢
    rw [List.flatMap_cons, List.length_append, this, ok.len, List.length_cons, Nat.succ_mul]
    omega
theorem Kd.flat_append (K : Kd α) (l k : List α) : K.flat (l ++ k) = K.flat l ++ K.flat k := by simp [Kd.flat]
theorem Kd.flat_single (K : Kd α) (a : α) : K.flat [a] = K.cells a := by simp [Kd.flat]
theorem Kd.Ok.flat_one (ok : K.Ok) (l : List α) : ∀ u ∈ K.flat l, u.oneCell' = true := by
  intro u hu
  unfold Kd.flat at hu
  obtain ⟨a, _, h⟩ := List.mem_flatMap.1 hu
  exact ok.one a u h
theorem Kd.Ok.flat_get (ok : K.Ok) : ∀ (l : List α) (i : Nat) (a : α) (j : Nat) (u : Value), l[i]? = some a → (K.cells a)[j]? = some u → (K.flat l)[i * K.n + j]? = some u
  | [], i, a, j, u, h, _ => by simp at h
  | b :: l, 0, a, j, u, h, hu => by
    simp only [List.getElem?_cons_zero, Option.some.injEq] at h
    subst h
    show (K.cells b ++ K.flat l)[0 * K.n + j]? = some u
    have hj := (List.getElem?_eq_some_iff.1 hu).1
    rw [Nat.zero_mul, Nat.zero_add, List.getElem?_append_left hj]
    exact hu
  | b :: l, i + 1, a, j, u, h, hu => by
    have ih := ok.flat_get l i a j u (by simpa using h) hu
    show (K.cells b ++ K.flat l)[(i + 1) * K.n + j]? = some u
    rw [List.getElem?_append_right (by rw [ok.len, Nat.succ_mul]; omega), ok.len, Nat.succ_mul, show i * K.n + K.n + j - K.n = i * K.n + j by omega]
    exact ih
theorem Kd.Ok.flat_nth (ok : K.Ok) : ∀ (l : List α) (j : Nat) (u : Value), (K.flat l)[j]? = some u → ∃ i a m, l[i]? = some a ∧ (K.cells a)[m]? = some u ∧ j = i * K.n + m
  | [], j, u, h => by simp [Kd.flat] at h
  | b :: l, j, u, h => by
    have e : K.flat (b :: l) = K.cells b ++ K.flat l := rfl
    rw [e] at h
    by_cases hj : j < K.n
    · rw [List.getElem?_append_left (by rw [ok.len]; exact hj)] at h
      exact ⟨0, b, j, rfl, h, by omega⟩
    · rw [List.getElem?_append_right (by rw [ok.len]; omega), ok.len] at h
      obtain ⟨i, a, m, h1, h2, h3⟩ := ok.flat_nth l (j - K.n) u h
      exact ⟨i + 1, a, m, by simpa using h1, h2, by rw [Nat.succ_mul]; omega⟩
theorem KOwns.nil (base : Nat) (W : World) : KOwns K base (.slice none 0 0) [] W := World.ownsRow_nil W base _ _
theorem KOwns.below (h : KOwns K base v l W) (hb : Below W.heap.size W W') : KOwns K base v l W' := by
  rcases h with ⟨h1, h2 | ⟨g, cap, cur, e1, e2, e3, e4⟩⟩
  · exact ⟨h1, .inl h2⟩
  · exact ⟨h1, .inr ⟨g, cap, cur, e1, e2, (hb.block g (Array.getElem?_eq_some_iff.1 e3).1).trans e3, e4⟩⟩
theorem KOwns.other (h : KOwns K base v l W) (hb : ∀ g, base ≤ g → g < W.heap.size → W'.heap[g]? = W.heap[g]?) : KOwns K base v l W' := by
  rcases h with ⟨h1, h2 | ⟨g, cap, cur, e1, e2, e3, e4⟩⟩
  · exact ⟨h1, .inl h2⟩
  · exact ⟨h1, .inr ⟨g, cap, cur, e1, e2, (hb g e2 (Array.getElem?_eq_some_iff.1 e3).1).trans e3, e4⟩⟩
theorem KOwns.mono {base' : Nat} (h : KOwns K base v l W) (hb : base' ≤ base) : KOwns K base' v l W := by
  rcases h with ⟨h1, h2 | ⟨g, cap, cur, e1, e2, e3⟩⟩
  · exact ⟨h1, .inl h2⟩
  · exact ⟨h1, .inr ⟨g, cap, cur, e1, by omega, e3⟩⟩
theorem KOwns.form (h : KOwns K base v l W) : ∃ p cap, v = .slice p l.length cap := by
  rcases h with ⟨_, ⟨rfl, h2⟩ | ⟨g, cap, cur, e1, _⟩⟩
  · exact ⟨none, 0, by rw [h2]⟩
  · exact ⟨_, cap, e1⟩
theorem KOwns.ge (h : KOwns K base v l W) : ∀ k, v.ownBlock = some k → base ≤ k := by
  rcases h with ⟨_, ⟨rfl, _⟩ | ⟨g, cap, cur, rfl, e2, _⟩⟩
  · intro k hk; cases hk
  · intro k hk; injection hk with hk; subst hk; exact e2
theorem KOwns.lies (h : KOwns K base v l W) (ok : K.Ok) : KLies K v l W := by
  rcases h.2 with ⟨h1, h2⟩ | ⟨g, cap, cur, h1, _, _, h4, _⟩
  · exact .inl ⟨h1, List.length_eq_zero_iff.1 h2⟩
  · subst h1
    refine .inr ⟨⟨g, 0, none⟩, cap, rfl, h4, fun i a ha => ⟨rfl, fun j u hu => ?_⟩⟩
    have := World.ownsRow.cells (g := g) h rfl (i * K.n + j) u (ok.flat_get l i a j u ha hu)
    rw [Addr.add_mid] at this
    rw [show (⟨g, 0, none⟩ : Addr).off + i * K.n + j = 0 + (i * K.n + j) by show 0 + i * K.n + j = _; omega]
    exact this
theorem Kd.Ok.rangeLt (ok : K.Ok) {b o : Nat} {a : α} (h : W.rangeAt b o (K.cells a)) : b < W.heap.size := by
  have hp : 0 < (K.cells a).length := by rw [ok.len]; exact ok.pos
  exact World.block_lt_of_cell? _ _ (h 0 _ (List.getElem?_eq_getElem hp))
theorem KLies.below (h : KLies K v l W) (ok : K.Ok) (hb : Below W.heap.size W W') : KLies K v l W' := by
  rcases h with h | ⟨ad, cap, h1, h2, h3⟩
  · exact .inl h
  · refine .inr ⟨ad, cap, h1, h2, fun i a ha => ⟨(h3 i a ha).1, fun j u hu => ?_⟩⟩
    have h4 := (h3 i a ha).2
    exact (hb.cell (p := ⟨ad.block, ad.off + i * K.n + j, none⟩) (ok.rangeLt h4)).trans (h4 j u hu)
theorem KLies.form (h : KLies K v l W) : ∃ p cap, v = .slice p l.length cap := by
  rcases h with ⟨h1, h2⟩ | ⟨ad, cap, h1, _⟩
  · exact ⟨none, 0, by rw [h1, h2]; rfl⟩
  · exact ⟨_, cap, h1⟩
theorem KLies.at (h : KLies K (.slice p n cap) l W) {i : Nat} {a : α} (hi : l[i]? = some a) : ∃ b o, p = some ⟨b, o, none⟩ ∧ W.rangeAt b (o + i * K.n) (K.cells a) := by
  rcases h with ⟨_, h2⟩ | ⟨⟨b, o, sp⟩, cap, h1, _, h3⟩
  · rw [h2] at hi; simp at hi
  · injection h1 with h1 _ _
    obtain ⟨e, h4⟩ := h3 i a hi
    have e' : sp = none := e
    subst e'
    exact ⟨b, o, h1, h4⟩
theorem KLies.at' {b o : Nat} (h : KLies K (.slice (some ⟨b, o, none⟩) n cap) l W) {i : Nat} {a : α} (hi : l[i]? = some a) : W.rangeAt b (o + i * K.n) (K.cells a) := by
  obtain ⟨b', o', e, h⟩ := h.at hi
  injection e with e
  injection e with e1 e2
  rw [e1, e2]; exact h
theorem KLies.news {ad : Addr} (h : KLies K (.slice (some ad) n cap) l W) (ok : K.Ok) : ∀ j u, (K.flat l)[j]? = some u → W.cell? (ad.add j) = some u := by
  intro j u hu
  obtain ⟨i, a, m, h1, h2, rfl⟩ := ok.flat_nth l j u hu
  obtain ⟨b, o, e, h3⟩ := h.at h1
  injection e with e
  subst e
  have := h3 m u h2
  rw [Addr.add_mid, show o + (i * K.n + m) = o + i * K.n + m by omega]
  exact this
/-- Any elements more at a slice of one's own, by what they weigh. -/
theorem kappendB (K : Kd α) (ok : K.Ok) {ops : Array Oper} {rest : List Oper} {o : Oper} {a : Act} {w : World} {Q : Exit → Act → World → Prop} (hgd : o.guard = none) (s x : Operand)
    (ho : o.op = .call { callee := .builtin .append, args := #[s, x], argTypes := #[K.S, K.S] }) (base : Nat) (v : Value) (l k : List α) (hs : a.eval s = v) (hown : KOwns K base v l w)
    (u : Value) (hx : a.eval x = u) (hk : KLies K u k w) (hbase : base ≤ w.heap.size) (hlen : (l.length + k.length) * K.room ≤ 140737488355328)
    (h : ∀ v' w', KOwns K base v' (l ++ k) w' → w.grownBy w' v.ownBlock → wpList Tryd.prog ops Q rest (a.put o.dst v') w') : wpList Tryd.prog ops Q (o :: rest) a w := by
  obtain ⟨i, z, hi, hz, hsz, hby, hc⟩ := ok.info
  have hnm : l.length + k.length ≤ 140737488355328 := Nat.le_trans (by have := Nat.mul_le_mul_left (l.length + k.length) ok.room1; omega) hlen
  rcases hk with ⟨rfl, rfl⟩ | ⟨ad, cap, rfl, hcap, hr⟩
  · refine wpList_append_own_none hgd s x K.S ho base K.T i K.n ok.under hi v l.length (K.flat l) hs hown hx (h v w ?_ ⟨rfl, rfl, rfl, Nat.le_refl _, fun _ _ _ => rfl⟩)
    rw [List.append_nil]
    exact hown
  · refine wpList_append_own_at w hgd s x K.S ho base K.T i z K.n K.room ok.under hi hz hsz hby hc ok.pos v l.length (K.flat l) hs hown ad k.length cap (K.flat k) hx (ok.flat_len k)
      (KLies.news (.inr ⟨ad, cap, rfl, hcap, hr⟩) ok) (ok.flat_one k) (by unfold maxLen; omega) hlen hbase fun v' w' h1 h2 _ _ => h v' w' ?_ h2
    unfold KOwns
    rw [List.length_append, K.flat_append]
    exact h1
theorem Kd.Ok.light (ok : K.Ok) {n : Nat} (h : n ≤ 1000000) : n * K.room ≤ 140737488355328 := Nat.le_trans (Nat.mul_le_mul h ok.small) (by decide)
/-- Any elements more at a slice of one's own. -/
theorem kappend (K : Kd α) (ok : K.Ok) {ops : Array Oper} {rest : List Oper} {o : Oper} {a : Act} {w : World} {Q : Exit → Act → World → Prop} (hgd : o.guard = none) (s x : Operand)
    (ho : o.op = .call { callee := .builtin .append, args := #[s, x], argTypes := #[K.S, K.S] }) (base : Nat) (v : Value) (l k : List α) (hs : a.eval s = v) (hown : KOwns K base v l w)
    (u : Value) (hx : a.eval x = u) (hk : KLies K u k w) (hbase : base ≤ w.heap.size) (hlen : l.length + k.length ≤ 1000000)
    (h : ∀ v' w', KOwns K base v' (l ++ k) w' → w.grownBy w' v.ownBlock → wpList Tryd.prog ops Q rest (a.put o.dst v') w') : wpList Tryd.prog ops Q (o :: rest) a w :=
  kappendB K ok hgd s x ho base v l k hs hown u hx hk hbase (ok.light hlen) h
/-- A slice of nothing, written out. -/
theorem kbuildNone (K : Kd α) (ok : K.Ok) {ops : Array Oper} {rest : List Oper} {o : Oper} {a : Act} {w : World} {Q : Exit → Act → World → Prop} (hg : o.guard = none) (ho : o.op = .buildSlice K.S 0 #[])
    (h : wpList Tryd.prog ops Q rest (a.put o.dst (.slice (some ⟨w.heap.size, 0, none⟩) 0 0)) (w.alloc (.cells #[] K.T))) : wpList Tryd.prog ops Q (o :: rest) a w := by
  obtain ⟨i, z, hi, hz, hs, hb, hc⟩ := ok.info
  refine wpList_plain hg fun Kt hK => ?_
  have hr : ∀ parts : Array (Nat × Value), parts.toList = [] → (Instr.buildSlice K.S 0 parts).run Tryd.prog w = .ok (.slice (some ⟨w.heap.size, 0, none⟩) 0 0) (w.alloc (.cells #[] K.T)) := fun parts hp => by
    simp [Instr.buildSlice, run_underlying ok.under, sizeOf, typeInfo, hi, hp, Instr.fill, newRow]
    congr 2
    exact Array.eq_empty_of_size_eq_zero (by simp)
  unfold Oper.wp execOp
  simp only [ho, Sem.run_bind]
  rw [hr _ (by simp)]
  exact hK _ _ h
theorem KOwns.built (w : World) (base : Nat) (hb : base ≤ w.heap.size) : KOwns K base (.slice (some ⟨w.heap.size, 0, none⟩) 0 0) [] (w.alloc (.cells #[] K.T)) :=
  World.ownsRow_made w #[] 0 hb (by unfold maxLen; decide) (by simp)
/-- elements that lie in a block of their own -/
theorem Blk.klies {b : Nat} {cs : Array Value} {T : TypeId} (h : Blk b cs T W) (ok : K.Ok) (he : cs.toList = K.flat l) : KLies K (.slice (some ⟨b, 0, none⟩) l.length l.length) l W := by
  refine .inr ⟨_, _, rfl, Nat.le_refl _, fun i a ha => ⟨rfl, fun j u hu => ?_⟩⟩
  have := ok.flat_get l i a j u ha hu
  show W.cell? ⟨b, 0 + i * K.n + j, none⟩ = some u
  rw [Nat.zero_add, cell_of_row _ b _ cs _ _ h, ← Array.getElem?_toList, he]
  exact this
theorem kbelowOwn {w : World} (hb : Below w.heap.size w W) (ho : KOwns K base v l W) (hbase : w.heap.size ≤ base) (hg : W.grownBy W' v.ownBlock) : Below w.heap.size w W' :=
  hb.grown hg hb.size fun k e => Nat.le_trans hbase (ho.ge k e)
theorem Blk.grown {b : Nat} {cs : Array Value} {t : TypeId} (h : Blk b cs t W) (ho : KOwns K base v l W) (hbase : b < base) (hg : W.grownBy W' v.ownBlock) : Blk b cs t W' :=
  (hg.block _ h.lt (fun e => by have := ho.ge _ e.symm; omega)).trans h
theorem KLies.grown (h : KLies K v l W) (ok : K.Ok) {β : Type} {K' : Kd β} {l' : List β} {v' : Value} (ho : KOwns K' base v' l' W) (hlt : ∀ k, v.ownBlock = some k → k < base) (hg : W.grownBy W' v'.ownBlock) : KLies K v l W' := by
  rcases h with h | ⟨ad, cap, h1, h2, h3⟩
  · exact .inl h
  · refine .inr ⟨ad, cap, h1, h2, fun i a ha => ⟨(h3 i a ha).1, fun j u hu => ?_⟩⟩
    have h4 := (h3 i a ha).2
    have hb := hlt ad.block (by rw [h1]; rfl)
    exact (World.cell?_of_block (a := ⟨ad.block, ad.off + i * K.n + j, none⟩) (hg.block ad.block (ok.rangeLt h4) (fun e => by have := ho.ge _ e.symm; omega))).trans (h4 j u hu)
end
/-- a function value answers a condition on a value, in every world from one on -/
def KPred {α : Type} (V : α → Value) (Wf : α → Prop) (g : Nat) (cb : Array Value) (q : α → Bool) (w : World) : Prop :=
  ∀ W, Below w.heap.size w W → ∀ c, Wf c → Calls Tryd.prog g (#[V c] ++ cb) W fun e w' => e = .returned (.bool (q c)) ∧ Below W.heap.size W w'
theorem KPred.below {α : Type} {V : α → Value} {Wf : α → Prop} {g : Nat} {cb : Array Value} {q : α → Bool} {w W : World} (h : KPred V Wf g cb q w) (hb : Below w.heap.size w W) : KPred V Wf g cb q W := fun W' hW' => h W' (hb.trans (hW'.mono hb.size))
/-- the place of the first element that meets a condition, or -1 -/
def kidx {α : Type} (q : α → Bool) (l : List α) : Int := match l.findIdx? q with
  | some i => i
  | none => -1
theorem kidx_hit {α : Type} {q : α → Bool} {l : List α} {i : Nat} {a : α} (hi : l[i]? = some a) (h1 : q a = true) (h2 : ∀ j b, j < i → l[j]? = some b → q b = false) : kidx q l = i := by
  obtain ⟨hlt, e⟩ := List.getElem?_eq_some_iff.1 hi
  have : l.findIdx? q = some i := by
    rw [List.findIdx?_eq_some_iff_getElem]
    refine ⟨hlt, by rw [e]; exact h1, fun j hj => ?_⟩
    have hj' : j < l.length := by omega
    simpa using h2 j _ hj (List.getElem?_eq_getElem hj')
  unfold kidx
  rw [this]
theorem kidx_none {α : Type} {q : α → Bool} {l : List α} (h2 : ∀ (j : Nat) b, l[j]? = some b → q b = false) : kidx q l = -1 := by
  have : l.findIdx? q = none := by
    rw [List.findIdx?_eq_none_iff]
    intro x hx
    obtain ⟨j, hj, rfl⟩ := List.mem_iff_getElem.1 hx
    exact h2 j _ (List.getElem?_eq_getElem hj)
  unfold kidx
  rw [this]
theorem kidx_any {α : Type} (q : α → Bool) (l : List α) : decide (0 ≤ kidx q l) = l.any q := by
  unfold kidx
  cases h : l.findIdx? q with
  | none =>
    rw [List.findIdx?_eq_none_iff] at h
    have : l.any q = false := by rw [List.any_eq_false]; intro x hx; simp [h x hx]
    rw [this]; rfl
  | some i =>
    rw [List.findIdx?_eq_some_iff_getElem] at h
    obtain ⟨hi, h1, _⟩ := h
    have : l.any q = true := List.any_eq_true.2 ⟨_, List.getElem_mem hi, h1⟩
    rw [this]
    simp
theorem retI {k : IntKind} {a b : Int} (h : a = b) : Ending.returned (.int k a) = .returned (.int k b) := by rw [h]
theorem hEqI (a b : Nat → Int) : hEq a b = true ↔ ∀ j, j < 12 → a j = b j := by simp [hEq]
theorem Env.predK {w W : World} (h : Env w W) : ∀ W', Below W.heap.size W W' → Tab W' ∧ 0 < W'.heap.size := fun _ hb => ⟨(h.below hb).tab, (h.below hb).lt⟩
end Go.Proofs.YtpcacgfhjheiiaaDoor
