/-
  A reader of frames: its box and its stream; what a method of it leaves of all other memory; New, Feed, Left.
-/
import Derived.Test.YtdcekbmoihmjkaaFrmTl
namespace Go.Proofs.Ytdcekbmoihmjkaa
set_option maxRecDepth 20000
open Go.RowKit

/-- a reader, whose box holds the stream's slice v: what waits, and whether a length above the limit was met -/
def RdA (b : Nat) (v : Value) (q : List Int) (bad : Bool) (W : World) : Prop :=
  ∃ (l : List Int) (k u : Nat), Blk b #[v, .int .i64 (k : Int), .int .i64 (u : Int)] 39 W ∧ KOwns KB (b + 1) v l W ∧ k ≤ l.length ∧ l.length ≤ 2 * q.length ∧ q.length = l.length - k + u ∧ (bad = true → 0 < u) ∧ (bad = false → u = 0 ∧ l.drop k = q)
/-- what a reader's method leaves of all other memory -/
structure FKeep (b : Nat) (v v' : Value) (W W' : World) : Prop where
  below : Below b W W'
  keep : ∀ g, g < W.heap.size → g ≠ b → v.ownBlock ≠ some g → W'.heap[g]? = W.heap[g]?
  own : ∀ g, v'.ownBlock = some g → v.ownBlock = some g ∨ W.heap.size ≤ g
/-- a slice that lies in none of a reader's blocks -/
def Apart (b : Nat) (v x : Value) : Prop := ∀ g, x.ownBlock = some g → g ≠ b ∧ v.ownBlock ≠ some g
section
variable {b base : Nat} {v v' v'' x : Value} {q : List Int} {bad : Bool} {W W' W'' : World}
theorem FKeep.refl (b : Nat) (v : Value) (W : World) : FKeep b v v W W := ⟨Below.refl _ _, fun _ _ _ _ => rfl, fun _ h => .inl h⟩
theorem FKeep.trans (h : FKeep b v v' W W') (k : FKeep b v' v'' W' W'') : FKeep b v v'' W W'' := by
  refine ⟨h.below.trans k.below, fun g hg hb hv => ?_, fun g hg => ?_⟩
  · refine (k.keep g (by have := h.below.size; omega) hb fun e => ?_).trans (h.keep g hg hb hv)
    rcases h.own g e with e | e
    · exact hv e
    · omega
  · rcases k.own g hg with e | e
    · exact h.own g e
    · exact .inr (by have := h.below.size; omega)
theorem FKeep.of (hb : Below W.heap.size W W') (h : b ≤ W.heap.size) : FKeep b v v W W' := ⟨hb.mono h, fun g hg _ _ => hb.block g hg, fun _ h => .inl h⟩
theorem KOwns.at {α : Type} {K : Kd α} {l : List α} (h : KOwns K base v l W) (hk : ∀ g, v.ownBlock = some g → W'.heap[g]? = W.heap[g]?) : KOwns K base v l W' := by
  rcases h with ⟨h1, h2 | ⟨g, cap, cur, e1, e2, e3, e4⟩⟩
  · exact ⟨h1, .inl h2⟩
  · exact ⟨h1, .inr ⟨g, cap, cur, e1, e2, (hk g (by rw [e1]; rfl)).trans e3, e4⟩⟩
theorem KOwns.lt {α : Type} {K : Kd α} {l : List α} (h : KOwns K base v l W) : ∀ g, v.ownBlock = some g → base ≤ g ∧ g < W.heap.size := World.ownsRow.lt h
theorem RdA.lt (h : RdA b v q bad W) : b < W.heap.size := by obtain ⟨l, k, u, h1, _⟩ := h; exact h1.lt
theorem RdA.ge (h : RdA b v q bad W) : ∀ g, v.ownBlock = some g → b < g ∧ g < W.heap.size := by
  obtain ⟨l, k, u, _, h2, _⟩ := h
  intro g hg
  have := h2.lt g hg
  omega
theorem RdA.at (h : RdA b v q bad W) (h1 : W'.heap[b]? = W.heap[b]?) (h2 : ∀ g, v.ownBlock = some g → W'.heap[g]? = W.heap[g]?) : RdA b v q bad W' := by
  obtain ⟨l, k, u, a1, a2, a3⟩ := h
  exact ⟨l, k, u, h1.trans a1, a2.at h2, a3⟩
theorem RdA.below (h : RdA b v q bad W) (hb : Below W.heap.size W W') : RdA b v q bad W' := h.at (hb.block b h.lt) fun g hg => hb.block g (h.ge g hg).2
theorem FKeep.lies {α : Type} {K : Kd α} {l : List α} (h : FKeep b v v' W W') (ok : K.Ok) (hl : KLies K x l W) (ha : Apart b v x) : KLies K x l W' := by
  rcases hl with hl | ⟨ad, cap, rfl, h2, h3⟩
  · exact .inl hl
  · refine .inr ⟨ad, cap, rfl, h2, fun i a hi => ⟨(h3 i a hi).1, fun j u hu => ?_⟩⟩
    have h4 := (h3 i a hi).2
    have h5 := ha ad.block rfl
    exact (World.cell?_of_block (a := ⟨ad.block, ad.off + i * K.n + j, none⟩) (h.keep ad.block (ok.rangeLt h4) h5.1 h5.2)).trans (h4 j u hu)
theorem FKeep.apart (h : FKeep b v v' W W') (hx : ∀ g, x.ownBlock = some g → g < W.heap.size) (ha : Apart b v x) : Apart b v' x := fun g hg => ⟨(ha g hg).1, fun e => by
  rcases h.own g e with e | e
  · exact (ha g hg).2 e
  · have := hx g hg; omega⟩
theorem FKeep.tail {α : Type} {K : Kd α} {l : List α} (h : FKeep b v v' W W') (ht : KTail K base x l W) (ha : Apart b v x) : KTail K base x l W' :=
  ht.keep fun g hg => h.keep g (ht.ge g hg).2 (ha g hg).1 (ha g hg).2
theorem FKeep.owns {α : Type} {K : Kd α} {l : List α} (h : FKeep b v v' W W') (ht : KOwns K base x l W) (ha : Apart b v x) : KOwns K base x l W' :=
  ht.at fun g hg => h.keep g (ht.lt g hg).2 (ha g hg).1 (ha g hg).2
/-- what came before the reader -/
theorem FKeep.old {w : World} (h : FKeep b v v' W W') (hw : Below w.heap.size w W) (hb : w.heap.size ≤ b) : Below w.heap.size w W' := hw.trans (h.below.mono hb)
end
theorem infoInt1 : (Try.prog.info? 3).map (·.size) = some 1 := by kernel_rfl
theorem ret_i64 {a b : Int} (h : a = b) : Ending.returned (.int .i64 a) = .returned (.int .i64 b) := by rw [h]

theorem fnew_any (w : World) : Calls Try.prog 9 #[] w fun e w' => e = .returned (.pointer (some ⟨w.heap.size, 0, none⟩)) ∧ RdA w.heap.size (.slice none 0 0) [] false w' ∧ Below w.heap.size w w' := by
  have R0 := Lib.hid (Blk.new w #[.slice none 0 0, .int .i64 0, .int .i64 0] 39)
  have HB := Lib.hid (below1 w (.cells #[.slice none 0 0, .int .i64 0, .int .i64 0] 39))
  go_enter Try.func9, Try.ntmps9
  go_wp2_with fail
  go_ret
  exact ⟨rfl, ⟨[], 0, 0, R0.out, KOwns.nil _ _, Nat.le_refl _, Nat.zero_le _, rfl, fun h => (by cases h), fun _ => ⟨rfl, rfl⟩⟩, HB.out⟩
theorem ffeed_nil (v : Value) (w : World) : Calls Try.prog 10 #[.pointer none, v] w fun e w' => e = .returned (.tuple #[]) ∧ w' = w := by
  go_enter Try.func10, Try.ntmps10
  go_wp2_with fail
  refine bodyPost_end (results_none rfl _ _ _) rfl ?_
  exact ⟨rfl, rfl⟩
theorem fleft_nil (w : World) : Calls Try.prog 13 #[.pointer none] w fun e w' => e = .returned (.int .i64 0) ∧ w' = w := by
  go_enter Try.func13, Try.ntmps13
  go_wp2_with fail
  go_ret
  exact ⟨rfl, rfl⟩
theorem fnext_nil (w : World) : Calls Try.prog 11 #[.pointer none] w fun e w' => e = .returned (.tuple #[.slice none 0 0, .int .i64 8]) ∧ w' = w := by
  go_enter Try.func11, Try.ntmps11
  go_wp2_with fail
  go_ret2
  exact ⟨rfl, rfl⟩
/-- Left: how many wait -/
theorem fleft_any (b : Nat) (v : Value) (q : List Int) (bad : Bool) (hlen : q.length ≤ 1000000) (w : World) (h : RdA b v q bad w) :
    Calls Try.prog 13 #[.pointer (some ⟨b, 0, none⟩)] w fun e w' => e = .returned (.int .i64 (q.length : Int)) ∧ Below w.heap.size w w' := by
  obtain ⟨l, k, u, hB, hO, h1, h2, h3, _⟩ := h
  obtain ⟨p, c, rfl⟩ := hO.form
  have c0 : w.cell? ⟨b, 0, none⟩ = some (.slice p l.length c) := (cell_of_row w b 0 _ _ _ hB).trans rfl
  have c1 : w.cell? ⟨b, 1, none⟩ = some (.int .i64 (k : Int)) := (cell_of_row w b 1 _ _ _ hB).trans rfl
  have c2 : w.cell? ⟨b, 2, none⟩ = some (.int .i64 (u : Int)) := (cell_of_row w b 2 _ _ _ hB).trans rfl
  have HQ := Lib.hid (show IntKind.i64.wrap (IntKind.i64.wrap ((l.length : Int) - (k : Int)) + (u : Int)) = (q.length : Int) by simp only [IntKind.wrap_i64]; omega)
  have HQ2 := Lib.hid (show wrap64 (wrap64 ((l.length : Int) - (k : Int)) + (u : Int)) = (q.length : Int) by simp only [wrap64]; omega)
  clear hB hO h1 h2 h3 hlen
  generalize l.length = n at *
  generalize q.length = m at *
  go_enter Try.func13, Try.ntmps13
  go_upto_region 3 with fail
  go_quiet (fail)
  have HB := Lib.hid (belowDrewN w nq)
  clear c0 c1 c2
  generalize w.drewN nq = W at *
  go_wp2_with fail
  go_ret
  exact ⟨ret_i64 (by first | exact HQ.out | exact HQ2.out), HB.out⟩
end Go.Proofs.Ytdcekbmoihmjkaa
