/-
  A unit in memory: its box, its base, its open transactions; what a method of it leaves of all other memory.
-/
import Derived.Test.YtomnpfbebimpkaaGreatDoorUniMath
import Derived.Test.YtomnpfbebimpkaaGreatDoorUndArg
import Derived.Test.YtomnpfbebimpkaaGreatDoorCodArg
import Derived.Test.YtomnpfbebimpkaaGreatDoorPackModB
namespace Go.Proofs.YtomnpfbebimpkaaGreatDoor
set_option maxRecDepth 20000
open Go.RowKit

/-- what a call that may write some blocks leaves of all others -/
structure Fr (M : List Nat) (W W' : World) : Prop where
  os : W'.os = W.os
  tape : W'.tape = W.tape
  output : W'.output = W.output
  size : W.heap.size ≤ W'.heap.size
  keep : ∀ g, g < W.heap.size → g ∉ M → W'.heap[g]? = W.heap[g]?
def Typ (W : World) (g : Nat) (T : TypeId) : Prop := ∃ cs f, W.heap[g]? = some (.cells cs T f)
/-- the types of what a unit writes -/
def mutT : List TypeId := [81, 91, 93, 40, 30, 52]
def Muts (M : List Nat) (W : World) : Prop := ∀ g ∈ M, ∃ T ∈ mutT, Typ W g T
section
variable {M M' : List Nat} {W W' W'' w : World} {b g : Nat} {T T' : TypeId} {cs : Array Value} {rw_ : Option Nat}
theorem Fr.refl (M : List Nat) (W : World) : Fr M W W := ⟨rfl, rfl, rfl, Nat.le_refl _, fun _ _ _ => rfl⟩
theorem Fr.trans (h : Fr M W W') (k : Fr M' W' W'') (hs : ∀ g ∈ M', g ∈ M ∨ W.heap.size ≤ g) : Fr M W W'' :=
  ⟨k.os.trans h.os, k.tape.trans h.tape, k.output.trans h.output, Nat.le_trans h.size k.size, fun g hg hn => (k.keep g (Nat.lt_of_lt_of_le hg h.size) fun hm => (hs g hm).elim hn fun e => by omega).trans (h.keep g hg hn)⟩
theorem Fr.mono (h : Fr M W W') (hs : ∀ g ∈ M, g ∈ M' ∨ W.heap.size ≤ g) : Fr M' W W' := ⟨h.os, h.tape, h.output, h.size, fun g hg hn => h.keep g hg fun hm => (hs g hm).elim hn fun e => by omega⟩
theorem Fr.of (h : Below W.heap.size W W') : Fr M W W' := ⟨h.os, h.tape, h.output, h.size, fun g hg _ => h.block g hg⟩
theorem Fr.grown (h : W.grownBy W' rw_) (hr : ∀ k, rw_ = some k → k ∈ M) : Fr M W W' := ⟨h.os, h.tape, h.output, h.size, fun g hg hn => h.block g hg fun e => hn (hr g e.symm)⟩
theorem Fr.cell (W : World) (a : Addr) (u : Value) (h : a.block ∈ M) : Fr M W (W.setCell a u) := ⟨rfl, rfl, rfl, by simp [World.setCell], fun g _ hn => heap_setCell_other W a g u fun e => hn (e ▸ h)⟩
theorem Fr.row (W : World) (k : Nat) (cs : Array Value) (h : k ∈ M) : Fr M W (W.setRow k cs) := ⟨rfl, rfl, rfl, by simp [World.setRow], fun g _ hn => setRow_other _ _ _ _ fun e => hn (e ▸ h)⟩
theorem Fr.below {B : Nat} (h : Fr M W W') (hM : ∀ g ∈ M, B ≤ g) (hB : B ≤ W.heap.size) (hb : Below B w W) : Below B w W' :=
  hb.trans ⟨h.os, h.tape, h.output, h.size, fun g hg => h.keep g (by omega) fun hm => by have := hM g hm; omega⟩
theorem Fr.blk (h : Fr M W W') (hb : Blk b cs T W) (hn : b ∉ M) : Blk b cs T W' := (h.keep b hb.lt hn).trans hb
theorem Fr.typ (h : Fr M W W') (hb : Typ W g T) (hn : g ∉ M) : Typ W' g T := by
  obtain ⟨cs, f, e⟩ := hb
  exact ⟨cs, f, (h.keep g (Array.getElem?_eq_some_iff.1 e).1 hn).trans e⟩
theorem Typ.lt (h : Typ W g T) : g < W.heap.size := by
  obtain ⟨cs, f, e⟩ := h
  exact (Array.getElem?_eq_some_iff.1 e).1
theorem Typ.one (h : Typ W g T) (k : Typ W g T') : T = T' := by
  obtain ⟨cs, f, e⟩ := h
  obtain ⟨cs', f', e'⟩ := k
  rw [e] at e'
  injection e' with e'
  injection e'
theorem Blk.typ (h : Blk b cs T W) : Typ W b T := ⟨cs, _, h⟩
theorem Muts.lt (h : Muts M W) : ∀ g ∈ M, g < W.heap.size := fun g hg => by
  obtain ⟨T, _, ht⟩ := h g hg
  exact ht.lt
theorem Muts.not (h : Muts M W) (ht : Typ W g T) (hT : T ∉ mutT) : g ∉ M := fun hm => by
  obtain ⟨T', h1, h2⟩ := h g hm
  exact hT (ht.one h2 ▸ h1)
variable {α : Type} {K : Kd α} {base : Nat} {v : Value} {l : List α}
theorem KOwns.typ (h : KOwns K base v l W) (hk : v.ownBlock = some g) : Typ W g K.T := by
  rcases h.2 with ⟨e, _⟩ | ⟨g', cap, cur, e, _, e3, _⟩
  · rw [e] at hk; cases hk
  · rw [e] at hk
    injection hk with hk
    have hk' : g' = g := hk
    subst hk'
    exact ⟨cur, _, e3⟩
theorem KOwns.blkRange (h : KOwns K base v l W) (hk : v.ownBlock = some g) : base ≤ g ∧ g < W.heap.size := World.ownsRow.lt h g hk
theorem Fr.owns (h : Fr M W W') (ho : KOwns K base v l W) (hn : ∀ g, v.ownBlock = some g → g ∉ M) : KOwns K base v l W' := ho.keep fun g hg => h.keep g (ho.blkRange hg).2 (hn g hg)
theorem Fr.ownsT (h : Fr M W W') (hM : Muts M W) (ho : KOwns K base v l W) (hT : K.T ∉ mutT) : KOwns K base v l W' := h.owns ho fun _ hg => hM.not (ho.typ hg) hT
end
theorem notA : KA.T ∉ mutT := by decide
theorem notR : KR.T ∉ mutT := by decide
theorem notG : KG.T ∉ mutT := by decide
theorem notS : KS.T ∉ mutT := by decide
/-- rules of one's own, from a block on -/
def OL (B : Nat) (v : Value) (L : List Rm) (W : World) : Prop := KOwns KR B v L W ∧ ∀ y ∈ L, OwnA B y W
/-- a change that has actions of its own -/
def OwnM (B : Nat) (m : Mm) (W : World) : Prop := KOwns KA B (.slice m.q m.n m.c) m.u.acts W
section
variable {B : Nat} {M : List Nat} {v : Value} {L : List Rm} {m : Mm} {W W' : World}
theorem OL.lies (h : OL B v L W) : RLies v L W := ⟨h.1.lies okR, fun y hy => (h.2 y hy).inA⟩
theorem OL.below (h : OL B v L W) (hb : Below W.heap.size W W') : OL B v L W' := ⟨h.1.below hb, fun y hy => (h.2 y hy).below hb⟩
theorem OL.fr (h : OL B v L W) (k : Fr M W W') (hM : Muts M W) : OL B v L W' := ⟨k.ownsT hM h.1 notR, fun y hy => k.ownsT hM (h.2 y hy) notA⟩
theorem OL.mono {B' : Nat} (h : OL B v L W) (hb : B' ≤ B) : OL B' v L W := ⟨h.1.mono hb, fun y hy => (h.2 y hy).mono hb⟩
theorem OL.nil (B : Nat) (W : World) : OL B (.slice none 0 0) [] W := ⟨KOwns.nil _ _, fun _ h => (by cases h)⟩
theorem OwnM.inM (h : OwnM B m W) : InM m W := KOwns.lies h okA
theorem OwnM.below (h : OwnM B m W) (hb : Below W.heap.size W W') : OwnM B m W' := KOwns.below h hb
theorem OwnM.fr (h : OwnM B m W) (k : Fr M W W') (hM : Muts M W) : OwnM B m W' := k.ownsT hM h notA
end
/-- an open transaction in memory: its box, where its changes lie -/
structure Tm where
  b : Nat
  id : Int
  v : Value
  ms : List Mm
  ref : Bool
def Tm.tx (t : Tm) : Tx := ⟨t.id, t.ms.map (·.u), t.ref⟩
def tca (t : Tm) : Array Value := #[.int .i64 t.id, t.v, .bool t.ref]
/-- pointers to boxes -/
abbrev KX : Kd Nat := ⟨91, 79, 1, 8, fun b => [.pointer (some ⟨b, 0, none⟩)]⟩
theorem okX : KX.Ok where
  pos := by decide
  len := fun _ => rfl
  one := fun a u hu => by
    simp only [List.mem_cons, List.not_mem_nil, or_false] at hu
    subst hu
    rfl
  under := Tryz.underlying79
  info := infoOf (by kernel_rfl) (by kernel_rfl) (by kernel_rfl)
  small := by decide
  room1 := by decide
/-- a transaction lies in memory -/
structure TxA (B : Nat) (t : Tm) (W : World) : Prop where
  box : Blk t.b (tca t) 93 W
  ge : B ≤ t.b
  own : KOwns KM B t.v t.ms W
  acts : ∀ m ∈ t.ms, OwnM B m W
def ownL (v : Value) : List Nat := v.ownBlock.toList
theorem mem_ownL {v : Value} {g : Nat} : g ∈ ownL v ↔ v.ownBlock = some g := by unfold ownL; rw [Option.mem_toList]
/-- the blocks that a transaction writes -/
def Tm.mut (t : Tm) : List Nat := t.b :: ownL t.v
def mutsT (ts : List Tm) : List Nat := ts.flatMap (·.mut)
/-- a unit in memory -/
structure Um where
  p : Nat
  room : Int
  vb : Value
  L : List Rm
  vo : Value
  ts : List Tm
  fail : Bool
def Um.un (x : Um) : Un := ⟨x.room, x.L.map (·.u), x.ts.map (·.tx), x.fail⟩
def uca (x : Um) : Array Value := #[.int .i64 x.room, x.vb, x.vo, .bool x.fail]
def Um.muts (x : Um) : List Nat := x.p :: (ownL x.vo ++ mutsT x.ts)
structure UniA (B : Nat) (x : Um) (W : World) : Prop where
  box : Blk x.p (uca x) 81 W
  ge : B ≤ x.p
  base : OL B x.vb x.L W
  opn : KOwns KX B x.vo (x.ts.map (·.b)) W
  txs : ∀ t ∈ x.ts, TxA B t W
  nod : (mutsT x.ts).Nodup
section
variable {B : Nat} {M : List Nat} {t : Tm} {x : Um} {W W' : World} {g : Nat}
theorem TxA.below (h : TxA B t W) (hb : Below W.heap.size W W') : TxA B t W' := ⟨h.box.below hb, h.ge, h.own.below hb, fun m hm => (h.acts m hm).below hb⟩
theorem TxA.muts (h : TxA B t W) : ∀ g ∈ t.mut, B ≤ g ∧ ∃ T ∈ mutT, Typ W g T := fun g hg => by
  rcases List.mem_cons.1 hg with rfl | hg
  · exact ⟨h.ge, 93, by decide, h.box.typ⟩
  · have e := mem_ownL.1 hg
    exact ⟨(h.own.blkRange e).1, 40, by decide, h.own.typ e⟩
theorem TxA.fr (h : TxA B t W) (k : Fr M W W') (hM : Muts M W) (hn : ∀ g ∈ t.mut, g ∉ M) : TxA B t W' :=
  ⟨k.blk h.box (hn _ (by simp [Tm.mut])), h.ge, k.owns h.own fun g hg => hn g (by simp [Tm.mut, mem_ownL, hg]), fun m hm => (h.acts m hm).fr k hM⟩
theorem UniA.lt (h : UniA B x W) : x.p < W.heap.size := h.box.lt
theorem UniA.below (h : UniA B x W) (hb : Below W.heap.size W W') : UniA B x W' := ⟨h.box.below hb, h.ge, h.base.below hb, h.opn.below hb, fun t ht => (h.txs t ht).below hb, h.nod⟩
theorem mem_mutsT {ts : List Tm} : g ∈ mutsT ts ↔ ∃ t ∈ ts, g ∈ t.mut := List.mem_flatMap
theorem UniA.typs (h : UniA B x W) : ∀ g ∈ x.muts, B ≤ g ∧ ∃ T ∈ mutT, Typ W g T := fun g hg => by
  rcases List.mem_cons.1 hg with rfl | hg
  · exact ⟨h.ge, 81, by decide, h.box.typ⟩
  · rcases List.mem_append.1 hg with hg | hg
    · have e := mem_ownL.1 hg
      exact ⟨(h.opn.blkRange e).1, 91, by decide, h.opn.typ e⟩
    · obtain ⟨t, ht, hg⟩ := mem_mutsT.1 hg
      exact (h.txs t ht).muts g hg
theorem UniA.muts (h : UniA B x W) : Muts x.muts W := fun g hg => (h.typs g hg).2
theorem UniA.from (h : UniA B x W) : ∀ g ∈ x.muts, B ≤ g := fun g hg => (h.typs g hg).1
/-- a unit, while others write -/
theorem UniA.fr (h : UniA B x W) (k : Fr M W W') (hM : Muts M W) (hn : ∀ g ∈ x.muts, g ∉ M) : UniA B x W' :=
  ⟨k.blk h.box (hn _ (by simp [Um.muts])), h.ge, h.base.fr k hM, k.owns h.opn fun g hg => hn g (by simp [Um.muts, mem_ownL, hg]), fun t ht => (h.txs t ht).fr k hM fun g hg => hn g (by
    simp only [Um.muts, List.mem_cons, List.mem_append]
    exact .inr (.inr (mem_mutsT.2 ⟨t, ht, hg⟩))), h.nod⟩
/-- the parts of the box -/
theorem UniA.room_ (h : UniA B x W) : W.cell? ⟨x.p, 0, none⟩ = some (.int .i64 x.room) := (cell_of_row _ x.p 0 _ _ _ h.box).trans rfl
theorem UniA.vb_ (h : UniA B x W) : W.cell? ⟨x.p, 1, none⟩ = some x.vb := (cell_of_row _ x.p 1 _ _ _ h.box).trans rfl
theorem UniA.vo_ (h : UniA B x W) : W.cell? ⟨x.p, 2, none⟩ = some x.vo := (cell_of_row _ x.p 2 _ _ _ h.box).trans rfl
theorem UniA.fail_ (h : UniA B x W) : W.cell? ⟨x.p, 3, none⟩ = some (.bool x.fail) := (cell_of_row _ x.p 3 _ _ _ h.box).trans rfl
theorem TxA.id_ (h : TxA B t W) : W.cell? ⟨t.b, 0, none⟩ = some (.int .i64 t.id) := (cell_of_row _ t.b 0 _ _ _ h.box).trans rfl
theorem TxA.v_ (h : TxA B t W) : W.cell? ⟨t.b, 1, none⟩ = some t.v := (cell_of_row _ t.b 1 _ _ _ h.box).trans rfl
theorem TxA.ref_ (h : TxA B t W) : W.cell? ⟨t.b, 2, none⟩ = some (.bool t.ref) := (cell_of_row _ t.b 2 _ _ _ h.box).trans rfl
/-- blocks of different types -/
theorem Typ.ne {h : Nat} {T T' : TypeId} (a : Typ W g T) (b : Typ W h T') (hT : T ≠ T') : g ≠ h := fun e => by subst e; exact hT (a.one b)
theorem UniA.notTx (h : UniA B x W) : x.p ∉ mutsT x.ts := fun hm => by
  obtain ⟨t, ht, hg⟩ := mem_mutsT.1 hm
  rcases List.mem_cons.1 hg with e | hg
  · exact Typ.ne h.box.typ (h.txs t ht).box.typ (by decide) e
  · exact Typ.ne h.box.typ ((h.txs t ht).own.typ (mem_ownL.1 hg)) (by decide) rfl
theorem UniA.notVo (h : UniA B x W) : x.vo.ownBlock ≠ some x.p := fun e => Typ.ne (h.opn.typ e) h.box.typ (by decide) rfl
theorem UniA.voTx (h : UniA B x W) (e : x.vo.ownBlock = some g) : g ∉ mutsT x.ts := fun hm => by
  obtain ⟨t, ht, hg⟩ := mem_mutsT.1 hm
  rcases List.mem_cons.1 hg with e' | hg
  · exact Typ.ne (h.opn.typ e) (h.txs t ht).box.typ (by decide) e'
  · exact Typ.ne (h.opn.typ e) ((h.txs t ht).own.typ (mem_ownL.1 hg)) (by decide) rfl
/-- the box written: base, open, fail -/
theorem UniA.write (h : UniA B x W) (vb vo : Value) (L : List Rm) (ts : List Tm) (fl : Bool) (hW : Blk x.p #[.int .i64 x.room, vb, vo, .bool fl] 81 W') (k : Fr [x.p] W W') (hL : OL B vb L W) (ho : KOwns KX B vo (ts.map (·.b)) W) (ht : ∀ t ∈ ts, TxA B t W) (hn : (mutsT ts).Nodup) : UniA B ⟨x.p, x.room, vb, L, vo, ts, fl⟩ W' := by
  have hM : Muts [x.p] W := fun g hg => by
    simp only [List.mem_cons, List.not_mem_nil, or_false] at hg
    subst hg
    exact ⟨_, by decide, h.box.typ⟩
  refine ⟨hW, h.ge, hL.fr k hM, k.owns ho fun g hg hm => ?_, fun t htt => (ht t htt).fr k hM fun g hg hm => ?_, hn⟩
  · simp only [List.mem_cons, List.not_mem_nil, or_false] at hm
    subst hm
    exact Typ.ne (ho.typ hg) h.box.typ (by decide) rfl
  · simp only [List.mem_cons, List.not_mem_nil, or_false] at hm
    subst hm
    rcases List.mem_cons.1 hg with e | hg
    · exact Typ.ne h.box.typ (ht t htt).box.typ (by decide) e
    · exact Typ.ne h.box.typ ((ht t htt).own.typ (mem_ownL.1 hg)) (by decide) rfl
/-- what a method leaves: its own blocks may be written, and there are new ones -/
structure UFr (x x' : Um) (W W' : World) : Prop where
  fr : Fr x.muts W W'
  new : ∀ g ∈ x'.muts, g ∈ x.muts ∨ W.heap.size ≤ g
theorem UFr.refl (x : Um) (W : World) : UFr x x W W := ⟨Fr.refl _ _, fun _ h => .inl h⟩
theorem UFr.of (x : Um) (hb : Below W.heap.size W W') : UFr x x W W' := ⟨Fr.of hb, fun _ h => .inl h⟩
theorem UFr.trans {x' x'' : Um} {W'' : World} (h : UFr x x' W W') (k : UFr x' x'' W' W'') : UFr x x'' W W'' := ⟨h.fr.trans k.fr h.new, fun g hg => by
  rcases k.new g hg with q | q
  · exact h.new g q
  · exact .inr (by have := h.fr.size; omega)⟩
theorem UFr.old {x' : Um} {w : World} (h : UFr x x' W W') (hU : UniA B x W) (hB : B ≤ W.heap.size) (hb : Below B w W) : Below B w W' := h.fr.below hU.from hB hb
/-- another unit beside it -/
theorem UFr.other {x' y : Um} {B' : Nat} (h : UFr x x' W W') (hU : UniA B x W) (hY : UniA B' y W) (hd : ∀ g ∈ x.muts, g ∉ y.muts) : UniA B' y W' ∧ ∀ g ∈ x'.muts, g ∉ y.muts :=
  ⟨hY.fr h.fr hU.muts fun g hg hm => hd g hm hg, fun g hg hy => by
    rcases h.new g hg with q | q
    · exact hd g q hy
    · have := hY.muts.lt g hy; omega⟩
end
end Go.Proofs.YtomnpfbebimpkaaGreatDoor
