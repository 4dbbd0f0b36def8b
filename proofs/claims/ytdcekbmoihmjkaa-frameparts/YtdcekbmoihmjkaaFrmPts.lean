/-
  A reader of frames beside a slice of what waits (the law FrameParts).
-/
import Derived.Test.YtdcekbmoihmjkaaFrmLaw
import Derived.Deep.CutBlock
namespace Go.Proofs.Ytdcekbmoihmjkaa
set_option maxRecDepth 20000
open Go.RowKit

/-- a reader and, apart from it, a slice of one's own -/
def FpS (w : World) (b : Nat) (vr : Value) (qr : List Int) (bad : Bool) (vw : Value) (qw : List Int) (W : World) : Prop :=
  RdA b vr qr bad W ∧ KTail KB (b + 1) vw qw W ∧ Apart b vr vw ∧ Below w.heap.size w W ∧ w.heap.size ≤ b
section
variable {w W W' : World} {b g : Nat} {vr vw v' : Value} {qr qw q' : List Int} {bad bad' : Bool} {p : Option Addr} {n cap c : Nat}
theorem FpS.old (h : FpS w b vr qr bad vw qw W) : Below w.heap.size w W := h.2.2.2.1
theorem FpS.below (h : FpS w b vr qr bad vw qw W) (hb : Below W.heap.size W W') : FpS w b vr qr bad vw qw W' :=
  ⟨h.1.below hb, h.2.1.keep fun g hg => hb.block g (h.2.1.ge g hg).2, h.2.2.1, h.old.trans (hb.mono h.old.size), h.2.2.2.2⟩
theorem FpS.step (h : FpS w b vr qr bad vw qw W) (hr : RdA b v' q' bad' W') (hf : FKeep b vr v' W W') : FpS w b v' q' bad' vw qw W' :=
  ⟨hr, hf.tail h.2.1 h.2.2.1, hf.apart (fun g hg => (h.2.1.ge g hg).2) h.2.2.1, hf.old h.old h.2.2.2.2, h.2.2.2.2⟩
theorem FpS.set (h : FpS w b vr qr bad vw qw W) (hb : g ≠ b) (hr : vr.ownBlock ≠ some g) (hw : vw.ownBlock ≠ some g) (hg : w.heap.size ≤ g) (k : Nat) (u : Value) : FpS w b vr qr bad vw qw (W.setCell ⟨g, k, none⟩ u) := by
  have e : ∀ x, x ≠ g → (W.setCell ⟨g, k, none⟩ u).heap[x]? = W.heap[x]? := fun x hx => heap_setCell_other _ _ _ _ (by show x ≠ g; exact hx)
  exact ⟨h.1.at (e b (Ne.symm hb)) fun x hx => e x fun hxg => hr (by rw [hx, hxg]), h.2.1.keep fun x hx => e x fun hxg => hw (by rw [hx, hxg]), h.2.2.1, h.old.setCell hg _, h.2.2.2.2⟩
theorem FpS.grow (h : FpS w b vr qr bad vw qw W) (ht : KTail KB (b + 1) v' q' W') (hg : W.grownBy W' vw.ownBlock) (hat : v'.ownBlock = vw.ownBlock ∨ v'.ownBlock = some W.heap.size) : FpS w b vr qr bad v' q' W' := by
  have hlt := h.1.lt
  refine ⟨h.1.at (hg.block b hlt fun e => (h.2.2.1 b e.symm).1 rfl) fun x hx => hg.block x (h.1.ge x hx).2 fun e => (h.2.2.1 x e.symm).2 hx, ht, fun x hx => ?_, h.old.grown hg (by have := h.2.2.2.2; omega) fun x hx => by have := (h.2.1.ge x hx).1; have := h.2.2.2.2; omega, h.2.2.2.2⟩
  rcases hat with e | e
  · rw [e] at hx
    exact h.2.2.1 x hx
  · rw [e] at hx
    injection hx with hx
    subst hx
    exact ⟨by omega, fun e => by have := (h.1.ge _ e).2; omega⟩
theorem own_add (a : Addr) (n : Nat) : (a.add n).block = a.block := by unfold Addr.add; split <;> rfl
theorem own_from {k : Nat} : (fromV n p c cap k).ownBlock = (Value.slice p c cap).ownBlock := by
  unfold fromV
  split
  · cases p <;> rfl
  · cases p with
    | none => rfl
    | some a => show some (a.add _).block = some a.block; rw [own_add]
theorem FpS.cut {p2 : Option Addr} {m2 c2 k : Nat} (h : FpS w b vr qr bad (.slice p qw.length cap) qw W) (hk : k ≤ qw.length) (e : fromV 1 p qw.length cap k = .slice p2 m2 c2) : FpS w b vr qr bad (.slice p2 m2 c2) (qw.drop k) W := by
  rw [← e]
  exact ⟨h.1, h.2.1.from okB hk, fun x hx => h.2.2.1 x (by rw [← hx, own_from]), h.2.2.2⟩
theorem FpS.lies (h : FpS w b vr qr bad vw qw W) : KLies KB vw qw W := h.2.1.lies okB
/-- bytes of one's own beside the two -/
theorem FpS.apart (h : FpS w b vr qr bad vw qw W) (hg : W.heap.size ≤ g) : g ≠ b ∧ vr.ownBlock ≠ some g ∧ vw.ownBlock ≠ some g ∧ w.heap.size ≤ g :=
  ⟨by have := h.1.lt; omega, fun e => by have := (h.1.ge g e).2; omega, fun e => by have := (h.2.1.ge g e).2; omega, by have := h.old.size; omega⟩
end
theorem own_at {α : Type} {K : Kd α} {base : Nat} {v : Value} {l : List α} {W : World} (ok : K.Ok) (h : KOwns K base v l W) (hne : l ≠ []) : ∃ g cap, v = .slice (some ⟨g, 0, none⟩) l.length cap ∧ KAt K g cap l W ∧ base ≤ g ∧ g < W.heap.size := by
  have h' := h
  rcases h.2 with ⟨_, e⟩ | ⟨g, cap, cur, rfl, h2, h3, _⟩
  · exact absurd (List.length_eq_zero_iff.1 e) hne
  · exact ⟨g, cap, rfl, (KAt.of ok h').1, h2, (Array.getElem?_eq_some_iff.1 h3).1⟩
/-- what the law reckons as the first length -/
def nOf (q : List Int) : Int := if q.length < 4 then 0 else valB (q.take 4)
theorem nOf_no {q : List Int} (h : q.length < 4) : nOf q = 0 := by unfold nOf; rw [if_pos h]
theorem nOf_yes {q : List Int} (h : ¬ q.length < 4) : nOf q = valB (q.take 4) := by unfold nOf; rw [if_neg h]
theorem wpMidG {ops : Array Oper} {rest : List Oper} {oi : Oper} {a : Act} {w : World} {Q : Exit → Act → World → Prop} (hw : Region.wanted oi (yielded ops a.tmps) = true) (x y z : Operand) (ho : oi.op = .slice 22 x (some y) (some z) none) (p : Option Addr) (len cap c h : Nat) (hx : a.eval x = .slice p len cap) (hy : a.eval y = .int .i64 (c : Int)) (hz : a.eval z = .int .i64 (h : Int))
    (hc : c ≤ h) (hh : h ≤ cap) (hQ : wpList Try.prog ops Q rest (a.put oi.dst (.slice (midP p cap c) (h - c) (cap - c))) w) : wpList Try.prog ops Q (oi :: rest) a w :=
  wpList_step fun _ hK => by
    rw [if_pos hw]
    unfold Oper.wp
    rw [execMidB ho p len cap c h hx hy hz hc hh]
    exact hK _ _ hQ
theorem infoU8 : (Try.prog.info? 5).map (·.size) = some 1 := by kernel_rfl
theorem valB_small32 {q : List Int} (hb : ByL q) {r : Nat} (hr : r ≤ 4) : 0 ≤ valB (q.take r) ∧ valB (q.take r) < 4294967296 := by
  have h := valB_lt hb (r := r) (s := 4) hr
  rw [powB_4] at h
  exact h
theorem valB_small24 {q : List Int} (hb : ByL q) {r : Nat} (hr : r ≤ 3) : 0 ≤ valB (q.take r) ∧ valB (q.take r) < 16777216 := by
  have h := valB_lt hb (r := r) (s := 3) hr
  rw [powB_3] at h
  exact h
end Go.Proofs.Ytdcekbmoihmjkaa
