/-
  The walk of the reference's Meet.
-/
import Derived.Test.YtamjaohoicedfaaDoorRefHas
import Derived.Lib.ConvBytes
namespace Go.Proofs.YtamjaohoicedfaaDoor
open Go.RowKit

/-- a row of bytes that a conversion has made: the text, and room behind it -/
def BufAt (g : Nat) (X : List UInt8) (W : World) : Prop := ∃ cs : Array Value, W.heap[g]? = some (.cells cs 5 (cs.size, cs.size + 1)) ∧ X.length ≤ cs.size ∧ ∀ (j : Nat) (c : UInt8), X[j]? = some c → cs[j]? = some (Value.int .u8 (c.toNat : Int))
section
variable {g : Nat} {X : List UInt8} {W W' : World}
theorem BufAt.lt (h : BufAt g X W) : g < W.heap.size := by obtain ⟨cs, h1, _⟩ := h; exact (Array.getElem?_eq_some_iff.1 h1).1
theorem BufAt.below (h : BufAt g X W) (hb : Below W.heap.size W W') : BufAt g X W' := by
  have hl := h.lt
  obtain ⟨cs, h1, h2⟩ := h
  exact ⟨cs, (hb.block g hl).trans h1, h2⟩
theorem BufAt.cell (h : BufAt g X W) {j : Nat} {c : UInt8} (hj : X[j]? = some c) : W.cell? ⟨g, j, none⟩ = some (.int .u8 (c.toNat : Int)) := by
  obtain ⟨cs, h1, _, h3⟩ := h
  rw [cell_of_row W g j cs _ _ h1, h3 j c hj]
theorem BufAt.frozen (h : BufAt g X W) {j : Nat} (hj : j < X.length) : W.frozen? ⟨g, j, none⟩ = false := by
  obtain ⟨cs, h1, h2, _⟩ := h
  simp only [World.frozen?, h1]
  simp; omega
theorem BufAt.set (h : BufAt g X W) (j : Nat) (c : UInt8) : BufAt g (X.set j c) (W.setCell ⟨g, j, none⟩ (.int .u8 (c.toNat : Int))) := by
  obtain ⟨cs, h1, h2, h3⟩ := h
  refine ⟨cs.setIfInBounds j (.int .u8 (c.toNat : Int)), ?_, by rw [List.length_set, Array.size_setIfInBounds]; exact h2, fun i d hi => ?_⟩
  · rw [Array.size_setIfInBounds]
    simp only [World.setCell, Array.getElem?_modify, h1]
    simp
  · rw [List.getElem?_set] at hi
    rw [Array.getElem?_setIfInBounds]
    by_cases e : j = i
    · subst e
      rw [if_pos rfl] at hi
      by_cases hl : j < X.length
      · rw [if_pos hl] at hi
        injection hi with hi
        subst hi
        rw [if_pos rfl, if_pos (by omega)]
      · rw [if_neg hl] at hi; cases hi
    · rw [if_neg e] at hi ⊢
      exact h3 i d hi
end
/-- '[]byte(s)' -/
theorem toBytes (X : List UInt8) (W : World) : ∃ (cap : Nat) (W' : World), (convert 9 54 (.string ⟨X.toArray⟩)).run Tryd.prog W = .ok (.slice (some ⟨W.heap.size, 0, none⟩) X.length cap) W' ∧ BufAt W.heap.size X W' ∧ Below W.heap.size W W' := by
  have hs : (⟨X.toArray⟩ : ByteArray).size = X.length := by show X.toArray.size = X.length; simp
  refine ⟨_, _, (Lib.run_convert_string_bytes W 9 54 5 ⟨X.toArray⟩ Tryd.underlying9 Tryd.underlying54 Tryd.underlying5).trans (by rw [hs]), ?_, ?_⟩
  · refine ⟨_, Lib.bytesWorld_at_new W _ _, ?_, fun j c hj => ?_⟩
    · unfold Lib.bytesCells
      rw [Array.size_append, Array.size_map]
      show X.length ≤ X.toArray.size + _
      simp
    · have hl : j < X.length := (List.getElem?_eq_some_iff.1 hj).1
      unfold Lib.bytesCells
      rw [Array.getElem?_append_left (by rw [Array.size_map]; show j < X.toArray.size; simpa using hl), Array.getElem?_map]
      show Option.map _ X.toArray[j]? = _
      rw [List.getElem?_toArray, hj]
      rfl
  · refine ⟨?_, ?_, ?_, by rw [Lib.bytesWorld_size]; omega, fun k hk => Lib.bytesWorld_at_old W _ _ k hk⟩ <;> rfl
/-- 'string(b)' of such a row -/
theorem conv_buf {g cap n : Nat} {X : List UInt8} {W : World} (h : BufAt g X W) (hn : n = X.length) : (convert 54 9 (.slice (some ⟨g, 0, none⟩) n cap)).run Tryd.prog W = .ok (.string ⟨X.toArray⟩) W := by
  subst hn
  refine run_convert_bytes_back W 54 9 5 ⟨g, 0, none⟩ cap X Tryd.underlying54 Tryd.underlying5 Tryd.underlying9 fun j hj => ?_
  rw [Addr.add_mid, Nat.zero_add]
  exact h.cell (List.getElem?_eq_getElem hj)
/-- two letters joined, if they can be -/
def mrg (x y : UInt8) : UInt8 := if x == 120 then y else x
def cmpt (x y : UInt8) : Bool := x == 120 || y == 120 || x == y
/-- the first letters joined -/
def mergeTo (X Y : List UInt8) (r : Nat) : List UInt8 := (List.range X.length).map fun i => if i < r then mrg (X.getD i 0) (Y.getD i 0) else X.getD i 0
theorem mergeTo_len (X Y : List UInt8) (r : Nat) : (mergeTo X Y r).length = X.length := by simp [mergeTo]
theorem mergeTo_at (X Y : List UInt8) (r i : Nat) (h : i < X.length) : (mergeTo X Y r)[i]? = some (if i < r then mrg (X.getD i 0) (Y.getD i 0) else X.getD i 0) := by simp [mergeTo, h]
theorem mergeTo_zero (X Y : List UInt8) : mergeTo X Y 0 = X := by
  apply List.ext_getElem?
  intro i
  by_cases h : i < X.length
  · rw [mergeTo_at X Y 0 i h, if_neg (by omega), getD_at h]
  · rw [List.getElem?_eq_none (by rw [mergeTo_len]; omega), List.getElem?_eq_none (by omega)]
theorem mergeTo_set (X Y : List UInt8) (r : Nat) (hx : (X.getD r 0 == 120) = true) : (mergeTo X Y r).set r (Y.getD r 0) = mergeTo X Y (r + 1) := by
  apply List.ext_getElem?
  intro i
  rw [List.getElem?_set]
  by_cases h : i < X.length
  · rw [mergeTo_at X Y (r + 1) i h]
    by_cases e : r = i
    · subst e
      rw [if_pos rfl, if_pos (by rw [mergeTo_len]; exact h), if_pos (by omega), mrg, hx]; rfl
    · rw [if_neg e, mergeTo_at X Y r i h]
      by_cases h2 : i < r
      · rw [if_pos h2, if_pos (by omega)]
      · rw [if_neg h2, if_neg (by omega)]
  · rw [List.getElem?_eq_none (l := mergeTo X Y (r + 1)) (by rw [mergeTo_len]; omega)]
    by_cases e : r = i
    · rw [if_pos e, if_neg (by rw [mergeTo_len]; omega)]
    · rw [if_neg e, List.getElem?_eq_none (by rw [mergeTo_len]; omega)]
theorem mergeTo_keep (X Y : List UInt8) (r : Nat) (hx : (X.getD r 0 == 120) = false) : mergeTo X Y r = mergeTo X Y (r + 1) := by
  apply List.ext_getElem?
  intro i
  by_cases h : i < X.length
  · rw [mergeTo_at X Y r i h, mergeTo_at X Y (r + 1) i h]
    by_cases e : i = r
    · subst e
      rw [if_neg (by omega), if_pos (by omega), mrg, hx]; rfl
    · by_cases h2 : i < r
      · rw [if_pos h2, if_pos (by omega)]
      · rw [if_neg h2, if_neg (by omega)]
  · rw [List.getElem?_eq_none (by rw [mergeTo_len]; omega), List.getElem?_eq_none (by rw [mergeTo_len]; omega)]
/-- what one letter comes to -/
theorem cmpt_cases (x y : UInt8) : ∃ i j : Int, i = (x.toNat : Int) ∧ j = (y.toNat : Int) ∧ (((i == 120) = true ∧ (x == 120) = true ∧ cmpt x y = true) ∨ ((i == 120) = false ∧ (x == 120) = false ∧ (j != 120) = false ∧ cmpt x y = true) ∨ ((i == 120) = false ∧ (x == 120) = false ∧ (j != 120) = true ∧ (i != j) = false ∧ cmpt x y = true) ∨ ((i == 120) = false ∧ (x == 120) = false ∧ (j != 120) = true ∧ (i != j) = true ∧ cmpt x y = false)) := by
  refine ⟨_, _, rfl, rfl, ?_⟩
  rw [bne, bne, u8_x, u8_x, u8_eq]
  unfold cmpt
  cases x == 120 <;> cases y == 120 <;> cases x == y <;> simp
theorem next_all {X Y : List UInt8} {r : Nat} (h : ∀ j, j < r → cmpt (X.getD j 0) (Y.getD j 0) = true) (hr : cmpt (X.getD r 0) (Y.getD r 0) = true) : ∀ j, j < r + 1 → cmpt (X.getD j 0) (Y.getD j 0) = true := fun j hj => by
  by_cases e : j = r
  · rw [e]; exact hr
  · exact h j (by omega)
/-- the rows of the reference's Meet -/
def RMeetS (w : World) (a b : Nat → Int) (W : World) : Prop := Blk w.heap.size (cc a) 30 W ∧ Blk (w.heap.size + 1) (cc b) 30 W ∧ Blk (w.heap.size + 1 + 1) #[Value.int IntKind.u64 0, Value.int IntKind.u64 0, Value.int IntKind.u64 0, Value.int IntKind.u64 0, Value.int IntKind.u64 0, Value.int IntKind.u64 0, Value.int IntKind.u64 0, Value.int IntKind.u64 0, Value.int IntKind.u64 0, Value.int IntKind.u64 0, Value.int IntKind.u64 0, Value.int IntKind.u64 0, Value.int IntKind.u64 0, Value.int IntKind.u64 0, Value.int IntKind.u64 0, Value.int IntKind.u64 0, Value.int IntKind.u64 0, Value.int IntKind.u64 0, Value.int IntKind.u64 0, Value.int IntKind.u64 0, Value.int IntKind.u64 0, Value.int IntKind.u64 0, Value.int IntKind.u64 0, Value.int IntKind.u64 0] 30 W ∧ Below w.heap.size w W
theorem RMeetS.below {w : World} {a b : Nat → Int} {W W' : World} (hb : Below W.heap.size W W') (s : RMeetS w a b W) : RMeetS w a b W' := ⟨s.1.below hb, s.2.1.below hb, s.2.2.1.below hb, s.2.2.2.trans (hb.mono s.2.2.2.size)⟩
theorem RMeetS.start (w : World) (a b : Nat → Int) : RMeetS w a b (((w.alloc (.cells (cc a) 30)).alloc (.cells (cc b) 30)).alloc (.cells #[Value.int IntKind.u64 0, Value.int IntKind.u64 0, Value.int IntKind.u64 0, Value.int IntKind.u64 0, Value.int IntKind.u64 0, Value.int IntKind.u64 0, Value.int IntKind.u64 0, Value.int IntKind.u64 0, Value.int IntKind.u64 0, Value.int IntKind.u64 0, Value.int IntKind.u64 0, Value.int IntKind.u64 0, Value.int IntKind.u64 0, Value.int IntKind.u64 0, Value.int IntKind.u64 0, Value.int IntKind.u64 0, Value.int IntKind.u64 0, Value.int IntKind.u64 0, Value.int IntKind.u64 0, Value.int IntKind.u64 0, Value.int IntKind.u64 0, Value.int IntKind.u64 0, Value.int IntKind.u64 0, Value.int IntKind.u64 0] 30)) :=
  ⟨((Blk.new w (cc a) 30).old _).old _, (Blk.new2 w _ (cc b) 30).old _, Blk.new3 w _ _ _ _, (below2 w _ _).alloc (by simp; omega) _⟩
theorem RMeetS.set {w : World} {a b : Nat → Int} {W : World} (s : RMeetS w a b W) {g : Nat} (hg : w.heap.size + 1 + 1 < g) (k : Nat) (v : Value) : RMeetS w a b (W.setCell ⟨g, k, none⟩ v) :=
  ⟨s.1.cother (by omega) _, s.2.1.cother (by omega) _, s.2.2.1.cother (by omega) _, s.2.2.2.setCell (by show w.heap.size ≤ g; omega) _⟩
end Go.Proofs.YtamjaohoicedfaaDoor
