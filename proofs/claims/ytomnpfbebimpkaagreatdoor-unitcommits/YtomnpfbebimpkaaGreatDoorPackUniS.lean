/- Several of my texts as one: UniSend, UniStt, UniArg, UniTwin. -/
import Derived.Test.YtomnpfbebimpkaaGreatDoorPackUniP
import Derived.Test.YtomnpfbebimpkaaGreatDoorPackUniM
import Derived.Test.YtomnpfbebimpkaaGreatDoorUndArg
import Derived.Test.YtomnpfbebimpkaaGreatDoorCodArg
/-
  Changes sent to a unit in a transaction.
-/
namespace Go.Proofs.YtomnpfbebimpkaaGreatDoor
set_option maxRecDepth 20000
open Go.RowKit

def sndG (t : Int) (m : Mm) : Gm := ⟨1, t, 0, m, 0, zHd, none, 0, 0, []⟩
def endG (k t : Int) : Gm := ⟨k, t, 0, zMm, 0, zHd, none, 0, 0, []⟩
theorem builtSnd (t : Int) (m : Mm) : Tryz.prog.built 42 [(0, .int .i64 1), (1, .int .i64 t), (3, .agg (mca m))] = some (gca (sndG t m)) := by kernel_rfl
theorem builtEnd (k t : Int) : Tryz.prog.built 42 [(0, .int .i64 k), (1, .int .i64 t)] = some (gca (endG k t)) := by kernel_rfl
theorem wfSnd {t : Int} {m : Mm} (h : WfM m.u) : WfMs (sndG t m).u := ⟨h, wfHd0, fun u hu => (by cases hu)⟩
theorem wfEnd (k t : Int) : WfMs (endG k t).u := ⟨wfZ0, wfHd0, fun u hu => (by cases hu)⟩
theorem inSnd {t : Int} {m : Mm} {W : World} (h : InM m W) : InG (sndG t m) W := ⟨h, rlies_nil _⟩
theorem inEnd (k t : Int) (W : World) : InG (endG k t) W := ⟨zM_in _, rlies_nil _⟩
theorem stEnd (B : Nat) (k t : Int) (W : World) : StM B (endG k t).mod W := .inr (zM_own 0 _)
theorem UFr.old' {B b : Nat} {x x' : Um} {W W' w : World} (h : UFr x x' W W') (hU : UniA B x W) (hbB : b ≤ B) (hb : Below b w W) : Below b w W' :=
  h.fr.below (fun g hg => Nat.le_trans hbB (hU.from g hg)) (by have := hU.lt; have := hU.ge; omega) hb
end Go.Proofs.YtomnpfbebimpkaaGreatDoor

/-
  A unit that a statement made, beside what the statement was given: what every method makes of it.
-/
namespace Go.Proofs.YtomnpfbebimpkaaGreatDoor
set_option maxRecDepth 20000
open Go.RowKit

/-- the cells of a change that lies at a place -/
structure CellsMm (W : World) (b o : Nat) (m : Mm) : Prop where
  mm : W.rangeAt b (o + 1) (cl m.u.m)
  sl : W.cell? ⟨b, o + 26, none⟩ = some (.slice m.q m.n m.c)
theorem cellsM_mid {W : World} {b o : Nat} {m : Mm} (h : W.rangeAt b o (mcl m)) : CellsMm W b o m where
  mm := fun j x hx => by have := h (1 + j) x (mcl_mid m hx); rwa [← Nat.add_assoc] at this
  sl := h 26 _ (mcl_ge m 1)
/-! ### packets and moments leave a unit fit -/
section
variable {s : Un} {n : Nat}
end
/-! ### a unit that a statement made -/
/-- w0: where the statement began; B: the unit's box; s: what the unit is -/
structure Stt (w0 : World) (B : Nat) (y : Um) (s : Un) (n : Nat) (W : World) : Prop where
  un : y.un = s
  fit : FitM n y
  uni : UniA B y W
  bel : Below w0.heap.size w0 W
  tab : Tab W
  p : y.p = B
  ge : w0.heap.size ≤ B
  hz : 0 < w0.heap.size
section
variable {w0 W W' : World} {B : Nat} {y y' : Um} {s : Un} {n : Nat}
theorem Stt.hzB (h : Stt w0 B y s n W) : 0 < B := Nat.lt_of_lt_of_le h.hz h.ge
theorem Stt.lt (h : Stt w0 B y s n W) : B < W.heap.size := by have := h.uni.lt; have := h.p; omega
theorem Stt.hzW (h : Stt w0 B y s n W) : 0 < W.heap.size := by have := h.hzB; have := h.lt; omega
theorem Stt.below (h : Stt w0 B y s n W) (hb : Below W.heap.size W W') : Stt w0 B y s n W' :=
  ⟨h.un, h.fit, h.uni.below hb, h.bel.trans (hb.mono h.bel.size), h.tab.below h.hzW hb, h.p, h.ge, h.hz⟩
theorem Stt.next (h : Stt w0 B y s n W) {s' : Un} {m : Nat} (hu : y'.un = s') (hf : Fit m s') (hm : m ≤ 9000) (hU : UniA B y' W') (hp : y'.p = y.p) (k : UFr y y' W W') : Stt w0 B y' s' m W' :=
  ⟨hu, ⟨by rw [hu]; exact hf, hm⟩, hU, k.old' h.uni h.ge h.bel, (k.env h.uni h.tab h.hzB).1, hp.trans h.p, h.ge, h.hz⟩
theorem st_new (room r : Int) (hr : clampR room = r) (w0 w : World) (hb : Below w0.heap.size w0 w) (ht : Tab w) (hz : 0 < w0.heap.size) :
    Calls Tryz.prog 10 #[.int .i64 room] w fun e w' => e = .returned (.pointer (some ⟨w.heap.size, 0, none⟩)) ∧ Stt w0 w.heap.size (nilUm w.heap.size r) ⟨r, [], [], false⟩ 0 w' ∧ Below w.heap.size w w' := by
  subst hr
  refine (un_new room w).mono ?_
  rintro e w' ⟨rfl, hu, hbw⟩
  exact ⟨rfl, ⟨rfl, ⟨⟨fun u hu => (by cases hu), fun u hu => (by cases hu), List.nodup_nil, Nat.le_refl _, Nat.le_refl _, rfl, fun u hu => (by cases hu)⟩, by decide⟩, hu, hb.trans (hbw.mono hb.size), ht.below (by have := hb.size; omega) hbw, rfl, hb.size, hz⟩, hbw⟩
/-- what is given lies where it lay -/
theorem Stt.inM (h : Stt w0 B y s n W) {m : Mm} (hi : InM m w0) : InM m W := hi.below h.bel
theorem Stt.stM (h : Stt w0 B y s n W) {m : Mm} (hi : InM m w0) : StM B m W := .inl ⟨w0, h.ge, h.bel, hi⟩
theorem st_take (h : Stt w0 B y s n W) (g : Gm) (hw : WfMs g.u) (hi : InG g W) (hs : StM B g.mod W) (hn : n + 2 ≤ 9000) :
    Calls Tryz.prog 19 #[.pointer (some ⟨B, 0, none⟩), .agg (gca g)] W fun e w' => ∃ (y' : Um) (v : Value) (gs : List Gm), e = .returned v ∧ gs.map (·.u) = takeA s g.u ∧ AnsL W.heap.size v gs w' ∧ Stt w0 B y' (takeS s g.u) (n + 2) w' ∧ UFr y y' W w' := by
  have hk := un_take y B n h.fit (by omega) g hw W h.uni hi hs h.tab h.hzB
  rw [h.p] at hk
  refine hk.mono ?_
  rintro e w' ⟨y', v, gs, rfl, hg, ha, hun, hu, hp, hf⟩
  rw [h.un] at hg hun
  exact ⟨y', v, gs, rfl, hg, ha, h.next hun (by rw [← h.un]; exact h.fit.fit.take hw) hn hu hp hf, hf⟩
theorem st_given (h : Stt w0 B y s n W) (t : Int) {m : Mm} (hw : WfM m.u) (hi : InM m w0) (hn : n + 2 ≤ 9000) :
    Calls Tryz.prog 19 #[.pointer (some ⟨B, 0, none⟩), .agg (gca (sndG t m))] W fun e w' => ∃ (y' : Um) (v : Value) (gs : List Gm), e = .returned v ∧ gs.map (·.u) = takeA s (modM t m.u) ∧ AnsL W.heap.size v gs w' ∧ Stt w0 B y' (takeS s (modM t m.u)) (n + 2) w' ∧ UFr y y' W w' :=
  st_take h (sndG t m) (wfSnd hw) (inSnd (h.inM hi)) (h.stM hi) hn
theorem st_end (h : Stt w0 B y s n W) (k t : Int) (hn : n + 2 ≤ 9000) :
    Calls Tryz.prog 19 #[.pointer (some ⟨B, 0, none⟩), .agg (gca (endG k t))] W fun e w' => ∃ (y' : Um) (v : Value) (gs : List Gm), e = .returned v ∧ gs.map (·.u) = takeA s (endM k t) ∧ AnsL W.heap.size v gs w' ∧ Stt w0 B y' (takeS s (endM k t)) (n + 2) w' ∧ UFr y y' W w' :=
  st_take h (endG k t) (wfEnd k t) (inEnd k t W) (stEnd B k t W) hn
theorem st_base (h : Stt w0 B y s n W) : Calls Tryz.prog 15 #[.pointer (some ⟨B, 0, none⟩)] W (LayRet W.heap.size W s.base) := by
  have := un_base y B n h.fit W h.uni
  rwa [h.p, h.un] at this
theorem st_view (h : Stt w0 B y s n W) : Calls Tryz.prog 16 #[.pointer (some ⟨B, 0, none⟩)] W (LayRet W.heap.size W s.view) := by
  have := un_View y B n h.fit W h.uni h.tab h.hzW
  rwa [h.p, h.un] at this
theorem st_open (h : Stt w0 B y s n W) : Calls Tryz.prog 18 #[.pointer (some ⟨B, 0, none⟩)] W fun e w' => ∃ v, e = .returned v ∧ KOwns KJ W.heap.size v (ascL (s.opn.map (·.id))) w' ∧ Below W.heap.size W w' := by
  have h1 : y.ts.map (·.tx) = s.opn := congrArg Un.opn h.un
  have h2 : y.ts.map (·.id) = s.opn.map (·.id) := by rw [← h1, List.map_map]; rfl
  have hl : y.ts.length ≤ 9000 := by
    have q1 := h.fit.fit.opn
    have q2 := congrArg List.length h1
    rw [List.length_map] at q2
    rw [h.un] at q1
    have := h.fit.n
    omega
  have := un_open y B hl W h.uni
  rwa [h.p, h2] at this
end
end Go.Proofs.YtomnpfbebimpkaaGreatDoor

/-
  What happens to a unit, in slices that come in, opened.
-/
namespace Go.Proofs.YtomnpfbebimpkaaGreatDoor
set_option maxRecDepth 20000
open Go.ChangeShapes Go.WideShapes Go.ChangeAt Go.RowKit
/-- what happens: which kind, a number, a message, a header -/
structure Xm where
  what : Int
  n : Int
  g : Gm
  h : Nat → Int
structure WfX (x : Xm) : Prop where
  what : I64 x.what
  n : I64 x.n
  g : WfG x.g
  h : Wf x.h
/-- the cells of one that lies at a place -/
structure CellsX (W : World) (b o : Nat) (x : Xm) : Prop where
  what : W.cell? ⟨b, o, none⟩ = some (.int .i64 x.what)
  n : W.cell? ⟨b, o + 1, none⟩ = some (.int .i64 x.n)
  g : W.rangeAt b (o + 2) (gcl x.g)
  h : W.rangeAt b (o + 50) (hl x.h)
section
variable {H : Type} {enc : TypeId × Value → H} {W : World} {base : Nat} {sp : Nat → Bool} {held : Bool}
end
end Go.Proofs.YtomnpfbebimpkaaGreatDoor

/-
  Two units beside each other: one has a transaction open that the other has not.
-/
namespace Go.Proofs.YtomnpfbebimpkaaGreatDoor
set_option maxRecDepth 20000
open Go.RowKit

/-! ### the model -/
/-- nothing is open but one transaction -/
def OneT (t : Int) (us : List Ru) (s : Un) : Prop := ∃ q, s = ⟨32, us, q, false⟩ ∧ (q = [] ∨ ∃ L r, q = [⟨t, L, r⟩])
theorem OneT.base {t : Int} {us : List Ru} {s : Un} (h : OneT t us s) : s.base = us := by obtain ⟨q, rfl, _⟩ := h; rfl
/-! ### in memory -/
/-- two units that share no memory -/
structure TwoU (w0 : World) (A : Nat) (x : Um) (s : Un) (B : Nat) (y : Um) (t : Un) (n : Nat) (W : World) : Prop where
  a : Stt w0 A x s n W
  b : Stt w0 B y t n W
  d : ∀ g ∈ x.muts, g ∉ y.muts
section
variable {w0 W W' : World} {A B n m : Nat} {x x' y y' : Um} {s s' t t' : Un}
end
end Go.Proofs.YtomnpfbebimpkaaGreatDoor
