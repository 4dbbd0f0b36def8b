/- Several of my texts as one: RowGen, ActVal, ActSnd, ActFun, ActRun, ActRef, ActRrun, ActSam. -/
import Derived.Test.YtgmfmmabegcocaaPackCube
import Derived.Deep.AppendLies
import Derived.Great.BuildSlice
import Derived.Laws.OwnMore
import Derived.Maps.AppendAt
import Derived.Laws.AppendOwnNone
import Derived.Shelf.Abstract
import Derived.Laws.StructEq
import Derived.Deep.DeepCutAuto
/-
  Slices of elements of any kind: a kind has a type, a slice's type, a number of cells. Slices that lie in memory, slices of one's own, append.
-/
namespace Go.Proofs.Ytgmfmmabegcocaa
set_option maxRecDepth 20000
open Go.RowKit

/-- a kind of element: its type and its slice's type, its number of cells and of bytes, the cells of one -/
structure Kd (α : Type) where
  T : TypeId
  S : TypeId
  n : Nat
  room : Nat
  cells : α → List Value
section
variable {α : Type}
/-- the program lays out a kind as it says -/
structure Kd.Ok (K : Kd α) : Prop where
  pos : 0 < K.n
  len : ∀ a, (K.cells a).length = K.n
  one : ∀ a u, u ∈ K.cells a → u.oneCell' = true
  under : Try.prog.underlying K.S = some (.slice K.T)
  info : ∃ i z, Try.prog.info? K.T = some i ∧ i.zero = some z ∧ i.size = K.n ∧ i.bytes = K.room ∧ z.cells.size = K.n
  small : K.room ≤ 1000
  room1 : 0 < K.room
/-- the cells of a list, one behind the other -/
def Kd.flat (K : Kd α) (l : List α) : List Value := l.flatMap K.cells
/-- a slice value holds a list, in memory of its own from a block on -/
def KOwns (K : Kd α) (base : Nat) (v : Value) (l : List α) (W : World) : Prop := W.ownsRow base K.T K.n v l.length (K.flat l)
/-- a slice holds a list that lies in memory -/
def KLies (K : Kd α) (v : Value) (l : List α) (W : World) : Prop :=
  (v = .slice none 0 0 ∧ l = []) ∨ ∃ (ad : Addr) (cap : Nat), v = .slice (some ad) l.length cap ∧ l.length ≤ cap ∧ ∀ i a, l[i]? = some a → ad.spot = none ∧ W.rangeAt ad.block (ad.off + i * K.n) (K.cells a)
variable {K : Kd α} {base : Nat} {v : Value} {l k : List α} {W W' : World} {p : Option Addr} {n cap : Nat}
theorem Kd.Ok.flat_len (ok : K.Ok) : ∀ l : List α, (K.flat l).length = l.length * K.n
  | [] => by simp [Kd.flat]
  | a :: l => by
    have := ok.flat_len l
    unfold Kd.flat at this ⊢
    rw [List.flatMap_cons, List.length_append, this, ok.len, List.length_cons, Nat.succ_mul]
    omega
theorem Kd.flat_append (K : Kd α) (l k : List α) : K.flat (l ++ k) = K.flat l ++ K.flat k := by simp [Kd.flat]
theorem Kd.flat_single (K : Kd α) (a : α) : K.flat [a] = K.cells a := by simp [Kd.flat]
theorem Kd.Ok.flat_one (ok : K.Ok) (l : List α) : ∀ u ∈ K.flat l, u.oneCell' = true := by
  intro u hu
  unfold Kd.flat at hu
  obtain ⟨a, _, h⟩ := List.mem_flatMap.1 hu
  exact ok.one a u h
theorem Kd.Ok.flat_get (ok : K.Ok) : ∀ (l : List α) (i : Nat) (a : α) (j : Nat) (u : Value), l[i]? = some a → (K.cells a)[j]? = some u → (K.flat l)[i * K.n + j]? = some u
  | [], i, a, j, u, h, _ => by simp at h
  | b :: l, 0, a, j, u, h, hu => by
    simp only [List.getElem?_cons_zero, Option.some.injEq] at h
    subst h
    show (K.cells b ++ K.flat l)[0 * K.n + j]? = some u
    have hj := (List.getElem?_eq_some_iff.1 hu).1
    rw [Nat.zero_mul, Nat.zero_add, List.getElem?_append_left hj]
    exact hu
  | b :: l, i + 1, a, j, u, h, hu => by
    have ih := ok.flat_get l i a j u (by simpa using h) hu
    show (K.cells b ++ K.flat l)[(i + 1) * K.n + j]? = some u
    rw [List.getElem?_append_right (by rw [ok.len, Nat.succ_mul]; omega), ok.len, Nat.succ_mul, show i * K.n + K.n + j - K.n = i * K.n + j by omega]
    exact ih
theorem Kd.Ok.flat_nth (ok : K.Ok) : ∀ (l : List α) (j : Nat) (u : Value), (K.flat l)[j]? = some u → ∃ i a m, l[i]? = some a ∧ (K.cells a)[m]? = some u ∧ j = i * K.n + m
  | [], j, u, h => by simp [Kd.flat] at h
  | b :: l, j, u, h => by
    have e : K.flat (b :: l) = K.cells b ++ K.flat l := rfl
    rw [e] at h
    by_cases hj : j < K.n
    · rw [List.getElem?_append_left (by rw [ok.len]; exact hj)] at h
      exact ⟨0, b, j, rfl, h, by omega⟩
    · rw [List.getElem?_append_right (by rw [ok.len]; omega), ok.len] at h
      obtain ⟨i, a, m, h1, h2, h3⟩ := ok.flat_nth l (j - K.n) u h
      exact ⟨i + 1, a, m, by simpa using h1, h2, by rw [Nat.succ_mul]; omega⟩
theorem KOwns.nil (base : Nat) (W : World) : KOwns K base (.slice none 0 0) [] W := World.ownsRow_nil W base _ _
theorem KOwns.below (h : KOwns K base v l W) (hb : Below W.heap.size W W') : KOwns K base v l W' := by
  rcases h with ⟨h1, h2 | ⟨g, cap, cur, e1, e2, e3, e4⟩⟩
  · exact ⟨h1, .inl h2⟩
  · exact ⟨h1, .inr ⟨g, cap, cur, e1, e2, (hb.block g (Array.getElem?_eq_some_iff.1 e3).1).trans e3, e4⟩⟩
theorem KOwns.other (h : KOwns K base v l W) (hb : ∀ g, base ≤ g → g < W.heap.size → W'.heap[g]? = W.heap[g]?) : KOwns K base v l W' := by
  rcases h with ⟨h1, h2 | ⟨g, cap, cur, e1, e2, e3, e4⟩⟩
  · exact ⟨h1, .inl h2⟩
  · exact ⟨h1, .inr ⟨g, cap, cur, e1, e2, (hb g e2 (Array.getElem?_eq_some_iff.1 e3).1).trans e3, e4⟩⟩
theorem KOwns.mono {base' : Nat} (h : KOwns K base v l W) (hb : base' ≤ base) : KOwns K base' v l W := by
  rcases h with ⟨h1, h2 | ⟨g, cap, cur, e1, e2, e3⟩⟩
  · exact ⟨h1, .inl h2⟩
  · exact ⟨h1, .inr ⟨g, cap, cur, e1, by omega, e3⟩⟩
theorem KOwns.form (h : KOwns K base v l W) : ∃ p cap, v = .slice p l.length cap := by
  rcases h with ⟨_, ⟨rfl, h2⟩ | ⟨g, cap, cur, e1, _⟩⟩
  · exact ⟨none, 0, by rw [h2]⟩
  · exact ⟨_, cap, e1⟩
theorem KOwns.ge (h : KOwns K base v l W) : ∀ k, v.ownBlock = some k → base ≤ k := by
  rcases h with ⟨_, ⟨rfl, _⟩ | ⟨g, cap, cur, rfl, e2, _⟩⟩
  · intro k hk; cases hk
  · intro k hk; injection hk with hk; subst hk; exact e2
theorem KOwns.lies (h : KOwns K base v l W) (ok : K.Ok) : KLies K v l W := by
  rcases h.2 with ⟨h1, h2⟩ | ⟨g, cap, cur, h1, _, _, h4, _⟩
  · exact .inl ⟨h1, List.length_eq_zero_iff.1 h2⟩
  · subst h1
    refine .inr ⟨⟨g, 0, none⟩, cap, rfl, h4, fun i a ha => ⟨rfl, fun j u hu => ?_⟩⟩
    have := World.ownsRow.cells (g := g) h rfl (i * K.n + j) u (ok.flat_get l i a j u ha hu)
    rw [Addr.add_mid] at this
    rw [show (⟨g, 0, none⟩ : Addr).off + i * K.n + j = 0 + (i * K.n + j) by show 0 + i * K.n + j = _; omega]
    exact this
theorem Kd.Ok.rangeLt (ok : K.Ok) {b o : Nat} {a : α} (h : W.rangeAt b o (K.cells a)) : b < W.heap.size := by
  have hp : 0 < (K.cells a).length := by rw [ok.len]; exact ok.pos
  exact World.block_lt_of_cell? _ _ (h 0 _ (List.getElem?_eq_getElem hp))
theorem KLies.below (h : KLies K v l W) (ok : K.Ok) (hb : Below W.heap.size W W') : KLies K v l W' := by
  rcases h with h | ⟨ad, cap, h1, h2, h3⟩
  · exact .inl h
  · refine .inr ⟨ad, cap, h1, h2, fun i a ha => ⟨(h3 i a ha).1, fun j u hu => ?_⟩⟩
    have h4 := (h3 i a ha).2
    exact (hb.cell (p := ⟨ad.block, ad.off + i * K.n + j, none⟩) (ok.rangeLt h4)).trans (h4 j u hu)
theorem KLies.form (h : KLies K v l W) : ∃ p cap, v = .slice p l.length cap := by
  rcases h with ⟨h1, h2⟩ | ⟨ad, cap, h1, _⟩
  · exact ⟨none, 0, by rw [h1, h2]; rfl⟩
  · exact ⟨_, cap, h1⟩
theorem KLies.at (h : KLies K (.slice p n cap) l W) {i : Nat} {a : α} (hi : l[i]? = some a) : ∃ b o, p = some ⟨b, o, none⟩ ∧ W.rangeAt b (o + i * K.n) (K.cells a) := by
  rcases h with ⟨_, h2⟩ | ⟨⟨b, o, sp⟩, cap, h1, _, h3⟩
  · rw [h2] at hi; simp at hi
  · injection h1 with h1 _ _
    obtain ⟨e, h4⟩ := h3 i a hi
    have e' : sp = none := e
    subst e'
    exact ⟨b, o, h1, h4⟩
theorem KLies.at' {b o : Nat} (h : KLies K (.slice (some ⟨b, o, none⟩) n cap) l W) {i : Nat} {a : α} (hi : l[i]? = some a) : W.rangeAt b (o + i * K.n) (K.cells a) := by
  obtain ⟨b', o', e, h⟩ := h.at hi
  injection e with e
  injection e with e1 e2
  rw [e1, e2]; exact h
theorem KLies.news {ad : Addr} (h : KLies K (.slice (some ad) n cap) l W) (ok : K.Ok) : ∀ j u, (K.flat l)[j]? = some u → W.cell? (ad.add j) = some u := by
  intro j u hu
  obtain ⟨i, a, m, h1, h2, rfl⟩ := ok.flat_nth l j u hu
  obtain ⟨b, o, e, h3⟩ := h.at h1
  injection e with e
  subst e
  have := h3 m u h2
  rw [Addr.add_mid, show o + (i * K.n + m) = o + i * K.n + m by omega]
  exact this
/-- Any elements more at a slice of one's own, by what they weigh. -/
theorem kappendB (K : Kd α) (ok : K.Ok) {ops : Array Oper} {rest : List Oper} {o : Oper} {a : Act} {w : World} {Q : Exit → Act → World → Prop} (hgd : o.guard = none) (s x : Operand)
    (ho : o.op = .call { callee := .builtin .append, args := #[s, x], argTypes := #[K.S, K.S] }) (base : Nat) (v : Value) (l k : List α) (hs : a.eval s = v) (hown : KOwns K base v l w)
    (u : Value) (hx : a.eval x = u) (hk : KLies K u k w) (hbase : base ≤ w.heap.size) (hlen : (l.length + k.length) * K.room ≤ 140737488355328)
    (h : ∀ v' w', KOwns K base v' (l ++ k) w' → w.grownBy w' v.ownBlock → wpList Try.prog ops Q rest (a.put o.dst v') w') : wpList Try.prog ops Q (o :: rest) a w := by
  obtain ⟨i, z, hi, hz, hsz, hby, hc⟩ := ok.info
  have hnm : l.length + k.length ≤ 140737488355328 := Nat.le_trans (by have := Nat.mul_le_mul_left (l.length + k.length) ok.room1; omega) hlen
  rcases hk with ⟨rfl, rfl⟩ | ⟨ad, cap, rfl, hcap, hr⟩
  · refine wpList_append_own_none hgd s x K.S ho base K.T i K.n ok.under hi v l.length (K.flat l) hs hown hx (h v w ?_ ⟨rfl, rfl, rfl, Nat.le_refl _, fun _ _ _ => rfl⟩)
    rw [List.append_nil]
    exact hown
  · refine wpList_append_own_at w hgd s x K.S ho base K.T i z K.n K.room ok.under hi hz hsz hby hc ok.pos v l.length (K.flat l) hs hown ad k.length cap (K.flat k) hx (ok.flat_len k)
      (KLies.news (.inr ⟨ad, cap, rfl, hcap, hr⟩) ok) (ok.flat_one k) (by unfold maxLen; omega) hlen hbase fun v' w' h1 h2 _ _ => h v' w' ?_ h2
    unfold KOwns
    rw [List.length_append, K.flat_append]
    exact h1
theorem Kd.Ok.light (ok : K.Ok) {n : Nat} (h : n ≤ 1000000) : n * K.room ≤ 140737488355328 := Nat.le_trans (Nat.mul_le_mul h ok.small) (by decide)
/-- Any elements more at a slice of one's own. -/
theorem kappend (K : Kd α) (ok : K.Ok) {ops : Array Oper} {rest : List Oper} {o : Oper} {a : Act} {w : World} {Q : Exit → Act → World → Prop} (hgd : o.guard = none) (s x : Operand)
    (ho : o.op = .call { callee := .builtin .append, args := #[s, x], argTypes := #[K.S, K.S] }) (base : Nat) (v : Value) (l k : List α) (hs : a.eval s = v) (hown : KOwns K base v l w)
    (u : Value) (hx : a.eval x = u) (hk : KLies K u k w) (hbase : base ≤ w.heap.size) (hlen : l.length + k.length ≤ 1000000)
    (h : ∀ v' w', KOwns K base v' (l ++ k) w' → w.grownBy w' v.ownBlock → wpList Try.prog ops Q rest (a.put o.dst v') w') : wpList Try.prog ops Q (o :: rest) a w :=
  kappendB K ok hgd s x ho base v l k hs hown u hx hk hbase (ok.light hlen) h
/-- A slice of nothing, written out. -/
theorem kbuildNone (K : Kd α) (ok : K.Ok) {ops : Array Oper} {rest : List Oper} {o : Oper} {a : Act} {w : World} {Q : Exit → Act → World → Prop} (hg : o.guard = none) (ho : o.op = .buildSlice K.S 0 #[])
    (h : wpList Try.prog ops Q rest (a.put o.dst (.slice (some ⟨w.heap.size, 0, none⟩) 0 0)) (w.alloc (.cells #[] K.T))) : wpList Try.prog ops Q (o :: rest) a w := by
  obtain ⟨i, z, hi, hz, hs, hb, hc⟩ := ok.info
  refine wpList_plain hg fun Kt hK => ?_
  have hr : ∀ parts : Array (Nat × Value), parts.toList = [] → (Instr.buildSlice K.S 0 parts).run Try.prog w = .ok (.slice (some ⟨w.heap.size, 0, none⟩) 0 0) (w.alloc (.cells #[] K.T)) := fun parts hp => by
    simp [Instr.buildSlice, run_underlying ok.under, sizeOf, typeInfo, hi, hp, Instr.fill, newRow]
    congr 2
    exact Array.eq_empty_of_size_eq_zero (by simp)
  unfold Oper.wp execOp
  simp only [ho, Sem.run_bind]
  rw [hr _ (by simp)]
  exact hK _ _ h
theorem KOwns.built (w : World) (base : Nat) (hb : base ≤ w.heap.size) : KOwns K base (.slice (some ⟨w.heap.size, 0, none⟩) 0 0) [] (w.alloc (.cells #[] K.T)) :=
  World.ownsRow_made w #[] 0 hb (by unfold maxLen; decide) (by simp)
/-- elements that lie in a block of their own -/
theorem Blk.klies {b : Nat} {cs : Array Value} {T : TypeId} (h : Blk b cs T W) (ok : K.Ok) (he : cs.toList = K.flat l) : KLies K (.slice (some ⟨b, 0, none⟩) l.length l.length) l W := by
  refine .inr ⟨_, _, rfl, Nat.le_refl _, fun i a ha => ⟨rfl, fun j u hu => ?_⟩⟩
  have := ok.flat_get l i a j u ha hu
  show W.cell? ⟨b, 0 + i * K.n + j, none⟩ = some u
  rw [Nat.zero_add, cell_of_row _ b _ cs _ _ h, ← Array.getElem?_toList, he]
  exact this
theorem kbelowOwn {w : World} (hb : Below w.heap.size w W) (ho : KOwns K base v l W) (hbase : w.heap.size ≤ base) (hg : W.grownBy W' v.ownBlock) : Below w.heap.size w W' :=
  hb.grown hg hb.size fun k e => Nat.le_trans hbase (ho.ge k e)
theorem Blk.grown {b : Nat} {cs : Array Value} {t : TypeId} (h : Blk b cs t W) (ho : KOwns K base v l W) (hbase : b < base) (hg : W.grownBy W' v.ownBlock) : Blk b cs t W' :=
  (hg.block _ h.lt (fun e => by have := ho.ge _ e.symm; omega)).trans h
theorem KLies.grown (h : KLies K v l W) (ok : K.Ok) {β : Type} {K' : Kd β} {l' : List β} {v' : Value} (ho : KOwns K' base v' l' W) (hlt : ∀ k, v.ownBlock = some k → k < base) (hg : W.grownBy W' v'.ownBlock) : KLies K v l W' := by
  rcases h with h | ⟨ad, cap, h1, h2, h3⟩
  · exact .inl h
  · refine .inr ⟨ad, cap, h1, h2, fun i a ha => ⟨(h3 i a ha).1, fun j u hu => ?_⟩⟩
    have h4 := (h3 i a ha).2
    have hb := hlt ad.block (by rw [h1]; rfl)
    exact (World.cell?_of_block (a := ⟨ad.block, ad.off + i * K.n + j, none⟩) (hg.block ad.block (ok.rangeLt h4) (fun e => by have := ho.ge _ e.symm; omega))).trans (h4 j u hu)
end
/-- a function value answers a condition on a value, in every world from one on -/
def KPred {α : Type} (V : α → Value) (Wf : α → Prop) (g : Nat) (cb : Array Value) (q : α → Bool) (w : World) : Prop :=
  ∀ W, Below w.heap.size w W → ∀ c, Wf c → Calls Try.prog g (#[V c] ++ cb) W fun e w' => e = .returned (.bool (q c)) ∧ Below W.heap.size W w'
theorem KPred.below {α : Type} {V : α → Value} {Wf : α → Prop} {g : Nat} {cb : Array Value} {q : α → Bool} {w W : World} (h : KPred V Wf g cb q w) (hb : Below w.heap.size w W) : KPred V Wf g cb q W := fun W' hW' => h W' (hb.trans (hW'.mono hb.size))
/-- the place of the first element that meets a condition, or -1 -/
def kidx {α : Type} (q : α → Bool) (l : List α) : Int := match l.findIdx? q with
  | some i => i
  | none => -1
theorem kidx_hit {α : Type} {q : α → Bool} {l : List α} {i : Nat} {a : α} (hi : l[i]? = some a) (h1 : q a = true) (h2 : ∀ j b, j < i → l[j]? = some b → q b = false) : kidx q l = i := by
  obtain ⟨hlt, e⟩ := List.getElem?_eq_some_iff.1 hi
  have : l.findIdx? q = some i := by
    rw [List.findIdx?_eq_some_iff_getElem]
    refine ⟨hlt, by rw [e]; exact h1, fun j hj => ?_⟩
    have hj' : j < l.length := by omega
    simpa using h2 j _ hj (List.getElem?_eq_getElem hj')
  unfold kidx
  rw [this]
theorem kidx_none {α : Type} {q : α → Bool} {l : List α} (h2 : ∀ (j : Nat) b, l[j]? = some b → q b = false) : kidx q l = -1 := by
  have : l.findIdx? q = none := by
    rw [List.findIdx?_eq_none_iff]
    intro x hx
    obtain ⟨j, hj, rfl⟩ := List.mem_iff_getElem.1 hx
    exact h2 j _ (List.getElem?_eq_getElem hj)
  unfold kidx
  rw [this]
theorem kidx_any {α : Type} (q : α → Bool) (l : List α) : decide (0 ≤ kidx q l) = l.any q := by
  unfold kidx
  cases h : l.findIdx? q with
  | none =>
    rw [List.findIdx?_eq_none_iff] at h
    have : l.any q = false := by rw [List.any_eq_false]; intro x hx; simp [h x hx]
    rw [this]; rfl
  | some i =>
    rw [List.findIdx?_eq_some_iff_getElem] at h
    obtain ⟨hi, h1, _⟩ := h
    have : l.any q = true := List.any_eq_true.2 ⟨_, List.getElem_mem hi, h1⟩
    rw [this]
    simp
theorem retI {k : IntKind} {a b : Int} (h : a = b) : Ending.returned (.int k a) = .returned (.int k b) := by rw [h]
theorem hEqI (a b : Nat → Int) : hEq a b = true ↔ ∀ j, j < 12 → a j = b j := by simp [hEq]
end Go.Proofs.Ytgmfmmabegcocaa

/-
  Actions and what is sent, as values; the walks of the program's unsound and Sound of package act.
-/
namespace Go.Proofs.Ytgmfmmabegcocaa
set_option maxRecDepth 20000
open Go.RowKit

/-- an action: its kind, port, field, value -/
structure Ac where
  k : Int
  p : Int
  f : Int
  v : Int
/-- what is sent: a port, a header -/
structure Sn where
  p : Int
  h : Nat → Int
def acl (a : Ac) : List Value := [.int .i64 a.k, .int .i64 a.p, .int .i64 a.f, .int .u64 a.v]
def aca (a : Ac) : Array Value := #[.int .i64 a.k, .int .i64 a.p, .int .i64 a.f, .int .u64 a.v]
def snl (s : Sn) : List Value := .int .i64 s.p :: hl s.h
def sna (s : Sn) : Array Value := #[.int .i64 s.p, .int .u64 (s.h 0), .int .u64 (s.h 1), .int .u64 (s.h 2), .int .u64 (s.h 3), .int .u64 (s.h 4), .int .u64 (s.h 5), .int .u64 (s.h 6), .int .u64 (s.h 7), .int .u64 (s.h 8), .int .u64 (s.h 9), .int .u64 (s.h 10), .int .u64 (s.h 11)]
theorem infoOf {T : TypeId} {n b : Nat} (h1 : (Try.prog.info? T).map (·.size) = some n) (h2 : (Try.prog.info? T).map (·.bytes) = some b) (h3 : ((Try.prog.info? T).bind (·.zero)).map (·.cells.size) = some n) :
    ∃ i z, Try.prog.info? T = some i ∧ i.zero = some z ∧ i.size = n ∧ i.bytes = b ∧ z.cells.size = n := by
  cases hi : Try.prog.info? T with
  | none => rw [hi] at h1; cases h1
  | some i =>
    rw [hi] at h1 h2 h3
    simp only [Option.map_some, Option.some.injEq, Option.bind_some, Option.map_eq_some_iff] at h1 h2 h3
    obtain ⟨z, hz, hc⟩ := h3
    exact ⟨i, z, rfl, hz, h1, h2, hc⟩
/-- an action's value is a number of 64 bits -/
def WfA (a : Ac) : Prop := 0 ≤ a.v ∧ a.v < 18446744073709551616
def WfAL (l : List Ac) : Prop := ∀ a ∈ l, WfA a
theorem WfAL.at {l : List Ac} (h : WfAL l) {i : Nat} {a : Ac} (hi : l[i]? = some a) : WfA a := h _ (List.mem_of_getElem? hi)
/-- is an action sound? -/
def sndA (a : Ac) : Bool :=
  if a.k = 1 then decide (1 ≤ a.p) && decide (a.p ≤ 16) && (a.f == 0) && (a.v == 0)
  else if a.k = 2 then (setE a.f a.v == 0) && (a.p == 0)
  else if a.k = 3 then (a.p == 0) && (a.f == 0) && (a.v == 0)
  else false
/-- is a list of actions sound? -/
def sndAL (l : List Ac) : Bool := decide (l.length ≤ 8) && l.all sndA
/-- are two actions the same? -/
def aEq (a b : Ac) : Bool := a.k == b.k && a.p == b.p && a.f == b.f && a.v == b.v
theorem partA0 (a : Ac) (w : World) : (part 3 (aca a) 0).run Try.prog w = .ok (.int .i64 a.k) w := by kernel_rfl
theorem partA1 (a : Ac) (w : World) : (part 3 (aca a) 1).run Try.prog w = .ok (.int .i64 a.p) w := by kernel_rfl
theorem partA2 (a : Ac) (w : World) : (part 3 (aca a) 2).run Try.prog w = .ok (.int .i64 a.f) w := by kernel_rfl
theorem aEq_iff (a b : Ac) : aEq a b = true ↔ a = b := by
  cases a; cases b
  simp [aEq, and_assoc]
theorem aca_one (a : Ac) : (aca a).all (·.oneCell') = true := by simp [aca, Value.oneCell']
end Go.Proofs.Ytgmfmmabegcocaa

/-
  The walks of the program's unsound and Sound of package act.
-/
namespace Go.Proofs.Ytgmfmmabegcocaa
set_option maxRecDepth 20000
open Go.RowKit

theorem cellA {W : World} {b : Nat} {a : Ac} {t : TypeId} (h : Blk b (aca a) t W) : W.cell? ⟨b, 0, none⟩ = some (.int .i64 a.k) ∧ W.cell? ⟨b, 1, none⟩ = some (.int .i64 a.p) ∧ W.cell? ⟨b, 2, none⟩ = some (.int .i64 a.f) ∧ W.cell? ⟨b, 3, none⟩ = some (.int .u64 a.v) :=
  ⟨(cell_of_row W b 0 _ _ _ h).trans rfl, (cell_of_row W b 1 _ _ _ h).trans rfl, (cell_of_row W b 2 _ _ _ h).trans rfl, (cell_of_row W b 3 _ _ _ h).trans rfl⟩
theorem ne_true {a b : Int} (h : a ≠ b) : (a != b) = true := by simpa using h
theorem beq_false {a b : Int} (h : a ≠ b) : (a == b) = false := by simpa using h
end Go.Proofs.Ytgmfmmabegcocaa

/-
  The walks of slices.IndexFunc and slices.ContainsFunc over actions; of Sound of package act; of slices.Equal, Same and the reference's SameActs.
-/
namespace Go.Proofs.Ytgmfmmabegcocaa
set_option maxRecDepth 20000
open Go.RowKit

theorem lt_some {α : Type} {l : List α} {i : Nat} (h : i < l.length) : ∃ a, l[i]? = some a := ⟨_, List.getElem?_eq_getElem h⟩
/-- are two lists of actions the same? -/
def aEqL : List Ac → List Ac → Bool
  | [], [] => true
  | a :: l, b :: k => aEq a b && aEqL l k
  | _, _ => false
theorem aEqL_iff : ∀ l k : List Ac, aEqL l k = true ↔ l = k
  | [], [] => by simp [aEqL]
  | [], _ :: _ => by simp [aEqL]
  | _ :: _, [] => by simp [aEqL]
  | a :: l, b :: k => by simp [aEqL, aEq_iff, aEqL_iff l k]
theorem aEqL_len {l k : List Ac} (h : l.length ≠ k.length) : aEqL l k = false := by
  rw [Bool.eq_false_iff]
  intro e
  exact h (congrArg _ ((aEqL_iff l k).1 e))
theorem aEqL_ne {l k : List Ac} {i : Nat} {a b : Ac} (ha : l[i]? = some a) (hb : k[i]? = some b) (h : aEq a b = false) : aEqL l k = false := by
  rw [Bool.eq_false_iff]
  intro e
  rw [(aEqL_iff l k).1 e, hb] at ha
  have := (aEq_iff a b).2 (Option.some.inj ha).symm
  rw [this] at h
  cases h
theorem aEqL_yes {l k : List Ac} (hl : l.length = k.length) (h : ∀ (j : Nat) a b, l[j]? = some a → k[j]? = some b → aEq a b = true) : aEqL l k = true := by
  rw [aEqL_iff]
  apply List.ext_getElem hl
  intro i h1 h2
  exact (aEq_iff _ _).1 (h i _ _ (List.getElem?_eq_getElem h1) (List.getElem?_eq_getElem h2))
end Go.Proofs.Ytgmfmmabegcocaa

/-
  The walk of the program's Run of package act.
-/
namespace Go.Proofs.Ytgmfmmabegcocaa
set_option maxRecDepth 20000
open Go.RowKit

/-- the header behind an action -/
def stepH (h : Nat → Int) (a : Ac) : Nat → Int := if a.k = 2 then upd h a.f.toNat a.v else h
/-- what an action sends -/
def stepS (h : Nat → Int) (a : Ac) : List Sn := if a.k = 1 then [⟨a.p, h⟩] else []
/-- what a list of actions sends -/
def runS : (Nat → Int) → List Ac → List Sn
  | _, [] => []
  | h, a :: l => stepS h a ++ runS (stepH h a) l
/-- is the controller told? -/
def hasT (l : List Ac) : Bool := l.any fun a => a.k == 3
/-- what Run returns: what is sent; whether the controller is told -/
def runV (l : List Ac) (h : Nat → Int) : List Sn := if sndAL l then runS h l else []
def runB (l : List Ac) : Bool := sndAL l && hasT l
theorem dropAt {α : Type} {l : List α} {r : Nat} {c : α} (h : l[r]? = some c) : l.drop r = c :: l.drop (r + 1) := by
  obtain ⟨h1, h2⟩ := List.getElem?_eq_some_iff.1 h
  rw [List.drop_eq_getElem_cons h1, h2]
theorem setE_any {n v : Int} (h : setE n v = 0) (g : Nat → Int) : setV g n v = upd g n.toNat v := by
  obtain ⟨k, rfl, hk, hf⟩ := setE_zero h
  rw [setV_in g k v hk hf]; rfl
section
variable {w W W' : World} {g : Nat → Int} {out : Value} {L : List Sn}
end
theorem zeroOf {T : TypeId} {zs : Array Value} {i : TypeInfo} {z : Value} (h : ((Try.prog.info? T).bind (·.zero)).map (·.cells) = some zs) (hi : Try.prog.info? T = some i) (hz : i.zero = some z) : z.cells = zs := by
  rw [hi] at h
  simpa [hz] using h
/-- A slice of some elements, written out. -/
theorem kbuild {α : Type} (K : Kd α) (ok : K.Ok) (m : Nat) (zs : Array Value) (hzs : ((Try.prog.info? K.T).bind (·.zero)).map (·.cells) = some zs) {ops : Array Oper} {rest : List Oper} {o : Oper} {a : Act} {w : World} {Q : Exit → Act → World → Prop} (hg : o.guard = none)
    (parts : Array (Nat × Operand)) (ho : o.op = .buildSlice K.S m parts) (vs : List (Nat × Value)) (hv : (parts.map fun (p : Nat × Operand) => (p.1, a.eval p.2)).toList = vs) (cs : Array Value)
    (hsm : m * K.n ≤ 1000) (hm : 0 < m) (hf : Instr.fill (fun i' => some (i' * K.n, K.n)) ((Array.range (m * K.n)).map (zs[· % zs.size]!)) vs = some cs)
    (h : wpList Try.prog ops Q rest (a.put o.dst (.slice (some ⟨w.heap.size, 0, none⟩) m m)) (w.alloc (.cells cs K.T))) : wpList Try.prog ops Q (o :: rest) a w := by
  obtain ⟨i, z, hi, hz, hs, hb, hc⟩ := ok.info
  have hzc := zeroOf hzs hi hz
  refine wpList_buildSlice hg K.S K.T m parts ho cs i z ok.under hi hz ?_ ?_ ?_ h
  · rw [hs]; omega
  · rw [hs]
    have := ok.pos
    have : 0 < m * K.n := Nat.mul_pos hm this
    omega
  · rw [hs, hzc]
    exact (congrArg (Instr.fill (fun i' => some (i' * K.n, K.n)) ((Array.range (m * K.n)).map (zs[· % zs.size]!))) hv).trans hf
/-- A slice of one element, written out. -/
theorem kbuildOne {α : Type} (K : Kd α) (ok : K.Ok) (zs : Array Value) (hzs : ((Try.prog.info? K.T).bind (·.zero)).map (·.cells) = some zs) {ops : Array Oper} {rest : List Oper} {o : Oper} {a : Act} {w : World} {Q : Exit → Act → World → Prop} (hg : o.guard = none)
    (x : Operand) (ho : o.op = .buildSlice K.S 1 #[(0, x)]) (cs : Array Value) (hx : a.eval x = .agg cs) (hsm : 1 * K.n ≤ 1000) (hf : Instr.fill (fun i' => some (i' * K.n, K.n)) ((Array.range (1 * K.n)).map (zs[· % zs.size]!)) [(0, .agg cs)] = some cs)
    (h : wpList Try.prog ops Q rest (a.put o.dst (.slice (some ⟨w.heap.size, 0, none⟩) 1 1)) (w.alloc (.cells cs K.T))) : wpList Try.prog ops Q (o :: rest) a w :=
  kbuild K ok 1 zs hzs hg _ ho _ (by simp [hx]) cs hsm (by decide) hf h
def zA : Array Value := #[.int .i64 0, .int .i64 0, .int .i64 0, .int .u64 0]
def zS : Array Value := #[.int .i64 0, .int .u64 0, .int .u64 0, .int .u64 0, .int .u64 0, .int .u64 0, .int .u64 0, .int .u64 0, .int .u64 0, .int .u64 0, .int .u64 0, .int .u64 0, .int .u64 0]
theorem fillS (s : Sn) : Instr.fill (fun i' => some (i' * 13, 13)) ((Array.range (1 * 13)).map (zS[· % zS.size]!)) [(0, .agg (sna s))] = some (sna s) := by kernel_rfl
theorem fillA (s : Ac) : Instr.fill (fun i' => some (i' * 4, 4)) ((Array.range (1 * 4)).map (zA[· % zA.size]!)) [(0, .agg (aca s))] = some (aca s) := by kernel_rfl
theorem snd_len {l : List Ac} (h : sndAL l = true) : l.length ≤ 8 := by
  unfold sndAL at h
  rw [Bool.and_eq_true, decide_eq_true_eq] at h
  exact h.1
theorem hasT_cons (c : Ac) (l : List Ac) : hasT (c :: l) = ((c.k == 3) || hasT l) := rfl
theorem snd_mem {l : List Ac} (h : sndAL l = true) {i : Nat} {c : Ac} (hi : l[i]? = some c) : sndA c = true := by
  unfold sndAL at h
  rw [Bool.and_eq_true] at h
  exact List.all_eq_true.1 h.2 c (List.mem_of_getElem? hi)
theorem snd_cases' {c : Ac} (h : sndA c = true) : (∃ p, c = ⟨1, p, 0, 0⟩ ∧ 1 ≤ p ∧ p ≤ 16) ∨ (∃ f v, c = ⟨2, 0, f, v⟩ ∧ setE f v = 0) ∨ c = ⟨3, 0, 0, 0⟩ := by
  obtain ⟨k, p, f, v⟩ := c
  unfold sndA at h
  by_cases h1 : k = 1
  · subst h1
    simp only [if_true, Bool.and_eq_true, decide_eq_true_eq, beq_iff_eq] at h
    obtain ⟨⟨⟨a1, a2⟩, rfl⟩, rfl⟩ := h
    exact .inl ⟨p, rfl, a1, a2⟩
  · by_cases h2 : k = 2
    · subst h2
      simp at h
      obtain ⟨a1, rfl⟩ := h
      exact .inr (.inl ⟨f, v, rfl, a1⟩)
    · by_cases h3 : k = 3
      · subst h3
        simp at h
        obtain ⟨⟨rfl, rfl⟩, rfl⟩ := h
        exact .inr (.inr rfl)
      · simp [h1, h2, h3] at h
end Go.Proofs.Ytgmfmmabegcocaa

/-
  The walk of the reference's Acts.
-/
namespace Go.Proofs.Ytgmfmmabegcocaa
set_option maxRecDepth 20000
open Go.RowKit

theorem sndAL_no {l : List Ac} {i : Nat} {c : Ac} (hi : l[i]? = some c) (h : sndA c = false) : sndAL l = false := by
  have : l.all sndA = false := by
    rw [List.all_eq_false]
    exact ⟨c, List.mem_of_getElem? hi, by simp [h]⟩
  simp [sndAL, this]
theorem sndAL_end {l : List Ac} (h : ∀ (j : Nat) b, l[j]? = some b → sndA b = true) : sndAL l = decide (l.length ≤ 8) := by
  have : l.all sndA = true := by
    rw [List.all_eq_true]
    intro x hx
    obtain ⟨j, hj, rfl⟩ := List.mem_iff_getElem.1 hx
    exact h j _ (List.getElem?_eq_getElem hj)
  simp [sndAL, this]
theorem a1_ok {p : Int} (g1 : 1 ≤ p) (g2 : p ≤ 16) : sndA ⟨1, p, 0, 0⟩ = true := by simp [sndA, g1, g2]
theorem a1_no {p f x : Int} (h : ¬ 1 ≤ p ∨ ¬ p ≤ 16 ∨ f ≠ 0 ∨ x ≠ 0) : sndA ⟨1, p, f, x⟩ = false := by
  rcases h with h | h | h | h <;> simp [sndA, h]
theorem a2_ok {n : Nat} {x : Int} (hn : n < 12) (hf : fitB n x = true) : sndA ⟨2, 0, n, x⟩ = true := by simp [sndA, setE_in n x hn hf]
theorem a2_p {p f x : Int} (h : p ≠ 0) : sndA ⟨2, p, f, x⟩ = false := by simp [sndA, h]
theorem a2_e {p f x : Int} (h : setE f x ≠ 0) : sndA ⟨2, p, f, x⟩ = false := by simp [sndA, h]
theorem setE_out {f x : Int} (h : ¬ 0 ≤ f ∨ ¬ f < 12) : setE f x ≠ 0 := fun e => by
  obtain ⟨m, rfl, e1, _⟩ := setE_zero e
  omega
theorem setE_big {n : Nat} {x : Int} (h : fitB n x = false) : setE (n : Int) x ≠ 0 := fun e => by
  obtain ⟨m, e1, _, e2⟩ := setE_zero e
  obtain rfl : n = m := by omega
  rw [e2] at h
  cases h
theorem a3_ok : sndA ⟨3, 0, 0, 0⟩ = true := by simp [sndA]
theorem a3_no {p f x : Int} (h : p ≠ 0 ∨ f ≠ 0 ∨ x ≠ 0) : sndA ⟨3, p, f, x⟩ = false := by
  rcases h with h | h | h <;> simp [sndA, h]
theorem a_no {k p f x : Int} (h1 : k ≠ 1) (h2 : k ≠ 2) (h3 : k ≠ 3) : sndA ⟨k, p, f, x⟩ = false := by simp [sndA, h1, h2, h3]
end Go.Proofs.Ytgmfmmabegcocaa

/-
  The walk of the reference's Run of package act.
-/
namespace Go.Proofs.Ytgmfmmabegcocaa
set_option maxRecDepth 20000
open Go.RowKit

/-- An operation that only reads, in a region whose first operations only read. -/
theorem stillRead {P : Program} {ops : Array Oper} {w : World} {Q : Act → Prop} {a : Act} {o : Oper} {rest : List Oper} (v : Value) (hg : Region.wanted o (yielded ops a.tmps) = true) (hv : (execOp a.eval o).run P w = .ok (.value v) w)
    (h : wpStill P ops w Q rest (a.put o.dst v)) : wpStill P ops w Q (o :: rest) a := by
  refine wpStill_step fun K hK => ?_
  rw [if_pos hg]
  unfold Oper.still
  rw [hv, Oper.stillUpon_value]
  exact hK _ h
theorem execRow0 {P : Program} {a : Act} {oi : Oper} {w : World} {ty : TypeId} {x : Operand} (ho : oi.op = .load ty x) (b : Nat) (hx : a.eval x = .pointer (some ⟨b, 0, none⟩)) {cs : Array Value} {t : TypeId} (hb : Blk b cs t w)
    {d : TypeDesc} (hu : P.underlying ty = some d) (hd : d.isRow = true) (hi : (P.info? ty).map (·.size) = some cs.size) : (execOp a.eval oi).run P w = .ok (.value (.agg cs)) w := by
  unfold execOp
  simp only [ho, hx, Instr.loadAt, Instr.sureAddr, Sem.run_bind, Sem.run_pure, Result.andThen_ok, run_loadVar_row w b t ty cs (0, 0) d hb hu (by cases d <;> first | rfl | (simp [TypeDesc.isRow] at hd)) hi]
theorem cellsA {W : World} {b o : Nat} {c : Ac} (h : W.rangeAt b o (acl c)) : W.cell? ⟨b, o, none⟩ = some (.int .i64 c.k) ∧ W.cell? ⟨b, o + 1, none⟩ = some (.int .i64 c.p) ∧ W.cell? ⟨b, o + 2, none⟩ = some (.int .i64 c.f) ∧ W.cell? ⟨b, o + 3, none⟩ = some (.int .u64 c.v) :=
  ⟨h 0 _ rfl, h 1 _ rfl, h 2 _ rfl, h 3 _ rfl⟩
/-- Any elements more at a slice of one's own, in a region walked by hand, by what they weigh. -/
theorem kappendWpB {α : Type} (K : Kd α) (ok : K.Ok) {o : Oper} {a : Act} {w : World} {Kt : Act → World → Prop} {Q : Exit → Act → World → Prop} (s x : Operand)
    (ho : o.op = .call { callee := .builtin .append, args := #[s, x], argTypes := #[K.S, K.S] }) (base : Nat) (v : Value) (l k : List α) (hs : a.eval s = v) (hown : KOwns K base v l w)
    (u : Value) (hx : a.eval x = u) (hk : KLies K u k w) (hbase : base ≤ w.heap.size) (hlen : (l.length + k.length) * K.room ≤ 140737488355328)
    (h : ∀ v' w', KOwns K base v' (l ++ k) w' → w.grownBy w' v.ownBlock → Kt (a.put o.dst v') w') : o.wp Try.prog a w Kt Q := by
  obtain ⟨i, z, hi, hz, hsz, hby, hc⟩ := ok.info
  have hnm : l.length + k.length ≤ 140737488355328 := Nat.le_trans (by have := Nat.mul_le_mul_left (l.length + k.length) ok.room1; omega) hlen
  rcases hk with ⟨rfl, rfl⟩ | ⟨ad, cap, rfl, hcap, hr⟩
  · have hrun := run_append_owned_none (P := Try.prog) (w := w) base K.S o.type K.T i K.n ok.under hi v l.length (K.flat l) hown
    have hq := h v w (by rw [List.append_nil]; exact hown) ⟨rfl, rfl, rfl, Nat.le_refl _, fun _ _ _ => rfl⟩
    unfold Oper.wp
    simp [execOp, ho, resolve, invoke, builtin, hs, hx, hrun, Result.andThen]
    exact hq
  · obtain ⟨v', w', hr', h2, h3, h4, h5⟩ := run_append_own_at (P := Try.prog) w base K.S o.type K.T i z K.n K.room ok.under hi hz hsz hby hc ok.pos v l.length (K.flat l) hown ad k.length cap (K.flat k) (ok.flat_len k)
      (KLies.news (.inr ⟨ad, cap, rfl, hcap, hr⟩) ok) (ok.flat_one k) (by unfold maxLen; omega) hlen hbase
    unfold Oper.wp execOp
    simp only [ho, resolve, invoke, builtin, Sem.run_bind, Sem.run_pure, Result.andThen_ok, List.map_toArray, List.map_cons, List.map_nil, hs, hx, hr']
    refine h v' w' ?_ h3
    unfold KOwns
    rw [List.length_append, K.flat_append]
    exact h2
theorem kappendWp {α : Type} (K : Kd α) (ok : K.Ok) {o : Oper} {a : Act} {w : World} {Kt : Act → World → Prop} {Q : Exit → Act → World → Prop} (s x : Operand)
    (ho : o.op = .call { callee := .builtin .append, args := #[s, x], argTypes := #[K.S, K.S] }) (base : Nat) (v : Value) (l k : List α) (hs : a.eval s = v) (hown : KOwns K base v l w)
    (u : Value) (hx : a.eval x = u) (hk : KLies K u k w) (hbase : base ≤ w.heap.size) (hlen : l.length + k.length ≤ 1000000)
    (h : ∀ v' w', KOwns K base v' (l ++ k) w' → w.grownBy w' v.ownBlock → Kt (a.put o.dst v') w') : o.wp Try.prog a w Kt Q :=
  kappendWpB K ok s x ho base v l k hs hown u hx hk hbase (ok.light hlen) h
theorem kbuildOneWp {α : Type} (K : Kd α) (ok : K.Ok) (zs : Array Value) (hzs : ((Try.prog.info? K.T).bind (·.zero)).map (·.cells) = some zs) {o : Oper} {a : Act} {w : World} {Kt : Act → World → Prop} {Q : Exit → Act → World → Prop}
    (x : Operand) (ho : o.op = .buildSlice K.S 1 #[(0, x)]) (cs : Array Value) (hx : a.eval x = .agg cs) (hsm : 1 * K.n ≤ 1000) (hf : Instr.fill (fun i' => some (i' * K.n, K.n)) ((Array.range (1 * K.n)).map (zs[· % zs.size]!)) [(0, .agg cs)] = some cs)
    (h : Kt (a.put o.dst (.slice (some ⟨w.heap.size, 0, none⟩) 1 1)) (w.alloc (.cells cs K.T))) : o.wp Try.prog a w Kt Q := by
  obtain ⟨i, z, hi, hz, hs, hb, hc⟩ := ok.info
  have hzc := zeroOf hzs hi hz
  refine wp_buildSlice K.S K.T 1 _ ho cs i z ok.under hi hz ?_ ?_ ?_ h
  · rw [hs]; omega
  · rw [hs]
    have := ok.pos
    omega
  · rw [hs, hzc]
    have e : ((#[(0, x)] : Array (Nat × Operand)).map fun (p : Nat × Operand) => (p.1, a.eval p.2)).toList = [(0, .agg cs)] := by simp [hx]
    exact (congrArg (Instr.fill (fun i' => some (i' * K.n, K.n)) ((Array.range (1 * K.n)).map (zs[· % zs.size]!))) e).trans hf
theorem kbuildNoneWp {α : Type} (K : Kd α) (ok : K.Ok) {o : Oper} {a : Act} {w : World} {Kt : Act → World → Prop} {Q : Exit → Act → World → Prop} (ho : o.op = .buildSlice K.S 0 #[])
    (h : Kt (a.put o.dst (.slice (some ⟨w.heap.size, 0, none⟩) 0 0)) (w.alloc (.cells #[] K.T))) : o.wp Try.prog a w Kt Q := by
  obtain ⟨i, z, hi, hz, hs, hb, hc⟩ := ok.info
  have hr : ∀ parts : Array (Nat × Value), parts.toList = [] → (Instr.buildSlice K.S 0 parts).run Try.prog w = .ok (.slice (some ⟨w.heap.size, 0, none⟩) 0 0) (w.alloc (.cells #[] K.T)) := fun parts hp => by
    simp [Instr.buildSlice, run_underlying ok.under, sizeOf, typeInfo, hi, hp, Instr.fill, newRow]
    congr 2
    exact Array.eq_empty_of_size_eq_zero (by simp)
  unfold Oper.wp execOp
  simp only [ho, Sem.run_bind]
  rw [hr _ (by simp)]
  exact h
end Go.Proofs.Ytgmfmmabegcocaa

/-
  The walks of slices.Equal over actions, of Same of package act, of the reference's SameActs.
-/
namespace Go.Proofs.Ytgmfmmabegcocaa
set_option maxRecDepth 20000
open Go.RowKit

theorem ne_len {a b : Nat} (h : a ≠ b) : ((a : Int) != (b : Int)) = true := by simp; omega
theorem eq_len {a b : Nat} (h : a = b) : ((a : Int) != (b : Int)) = false := by simp; omega
end Go.Proofs.Ytgmfmmabegcocaa
