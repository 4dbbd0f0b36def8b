/-
  The walk of the reference's From, at the text of a sound cube.
-/
import Derived.Test.YtamjaohoicedfaaDoorRefMath
namespace Go.Proofs.YtamjaohoicedfaaDoor
open Go.RowKit

/-- s[i] of a text -/
theorem idxText {X : List UInt8} {p : Nat} {ch : UInt8} (h : X[p]? = some ch) (w : World) : (Instr.index 9 (.string ⟨X.toArray⟩) (.int .i64 p)).run Tryd.prog w = .ok (.int .u8 (ch.toNat : Int)) w := by
  have hp : p < X.length := (List.getElem?_eq_some_iff.1 h).1
  have he : X[p] = ch := (List.getElem?_eq_some_iff.1 h).2
  have hs : (⟨X.toArray⟩ : ByteArray).size = X.length := by show X.toArray.size = X.length; simp
  have hg : (⟨X.toArray⟩ : ByteArray)[p]'(by rw [hs]; exact hp) = ch := by show X.toArray[p]'(by simpa using hp) = ch; simpa using he
  go_simp
theorem cell_setCell_ne {W : World} {g i j : Nat} (v : Value) (h : i ≠ j) : (W.setCell ⟨g, i, none⟩ v).cell? ⟨g, j, none⟩ = W.cell? ⟨g, j, none⟩ := by
  simp only [World.setCell, World.cell?]
  cases hb : W.heap[g]? with
  | none => simp [Array.getElem?_modify, hb]
  | some o => cases o <;> simp [Array.getElem?_modify, hb, h]
/-- the highest bits of a number of so many -/
def topB (x : Int) (n k : Nat) : Int := x / 2 ^ (n - k)
theorem topB_zero {x : Int} {n : Nat} (h0 : 0 ≤ x) (h : x.toNat < 2 ^ n) : topB x n 0 = 0 := by
  unfold topB
  rw [Nat.sub_zero]
  obtain ⟨m, rfl⟩ := Int.eq_ofNat_of_zero_le h0
  exact Int.ediv_eq_zero_of_lt (by omega) (by exact_mod_cast h)
theorem topB_all (x : Int) (n : Nat) : topB x n n = x := by unfold topB; simp
theorem topB_step {x : Int} (h0 : 0 ≤ x) (n k : Nat) (hk : k < n) : topB x n (k + 1) = topB x n k * 2 + (if x.toNat.testBit (n - 1 - k) then 1 else 0) := by
  obtain ⟨m, rfl⟩ := Int.eq_ofNat_of_zero_le h0
  unfold topB
  rw [Int.toNat_natCast, show n - (k + 1) = n - 1 - k by omega, show n - k = n - 1 - k + 1 by omega]
  generalize n - 1 - k = t
  have e1 : (2 : Int) ^ t = ((2 ^ t : Nat) : Int) := by push_cast; rfl
  have e2 : (2 : Int) ^ (t + 1) = ((2 ^ (t + 1) : Nat) : Int) := by push_cast; rfl
  rw [e1, e2, ← Int.natCast_ediv, ← Int.natCast_ediv, Nat.testBit_eq_decide_div_mod_eq, Nat.pow_succ, ← Nat.div_div_eq_div_mul]
  generalize m / 2 ^ t = q
  by_cases h : q % 2 = 1
  · rw [decide_eq_true h, if_pos rfl]; omega
  · rw [decide_eq_false h, if_neg (by decide)]; omega
theorem topB_small {x : Int} (h0 : 0 ≤ x) (n k : Nat) (h : x.toNat < 2 ^ n) (hn : n ≤ 48) : 0 ≤ topB x n k ∧ topB x n k < 281474976710656 := by
  obtain ⟨m, rfl⟩ := Int.eq_ofNat_of_zero_le h0
  unfold topB
  have e1 : (2 : Int) ^ (n - k) = ((2 ^ (n - k) : Nat) : Int) := by push_cast; rfl
  rw [Int.toNat_natCast] at h
  have h48 : m < 281474976710656 := Nat.lt_of_lt_of_le h (by have := Nat.pow_le_pow_right (show 0 < 2 by decide) hn; simpa using this)
  rw [e1, ← Int.natCast_ediv]
  have := Nat.div_le_self m (2 ^ (n - k))
  generalize m / 2 ^ (n - k) = q at *
  omega
/-- the field of a number of a cube -/
def fld (j : Nat) : Nat := if j < 12 then j else j - 12
theorem fld_val {r : Nat} (h : r < 12) : fld r = r := if_pos h
theorem fld_care (r : Nat) : fld (12 + r) = r := by unfold fld; rw [if_neg (by omega)]; omega
theorem fld_cases {j : Nat} (hj : j < 24) : fld j < 12 ∧ (j = fld j ∨ j = 12 + fld j) := by unfold fld; split <;> omega
/-- a cube as far as it is read: the first fields whole, so many bits of the next -/
def fromTo (c : Nat → Int) (r k : Nat) : Nat → Int := fun j => if fld j < r then c j else if fld j = r then topB (c j) (sz r).toNat k else 0
theorem fromTo_val (c : Nat → Int) {r : Nat} (k : Nat) (hr : r < 12) : fromTo c r k r = topB (c r) (sz r).toNat k := by
  unfold fromTo; rw [fld_val hr, if_neg (by omega), if_pos rfl]
theorem fromTo_care (c : Nat → Int) (r k : Nat) : fromTo c r k (12 + r) = topB (c (12 + r)) (sz r).toNat k := by
  unfold fromTo; rw [fld_care, if_neg (by omega), if_pos rfl]
theorem fromTo_step (c : Nat → Int) {r k : Nat} (hr : r < 12) {tv tc : Int} (hv : topB (c r) (sz r).toNat (k + 1) = tv) (hc : topB (c (12 + r)) (sz r).toNat (k + 1) = tc) : upd (upd (fromTo c r k) (12 + r) tc) r tv = fromTo c r (k + 1) := by
  funext j
  unfold upd
  by_cases e1 : j = r
  · subst e1; rw [if_pos rfl, fromTo_val c (k + 1) hr, hv]
  · rw [if_neg e1]
    by_cases e2 : j = 12 + r
    · subst e2; rw [if_pos rfl, fromTo_care c r (k + 1), hc]
    · rw [if_neg e2]
      unfold fromTo
      have : fld j ≠ r := by unfold fld; split <;> omega
      rw [if_neg this, if_neg this]
/-- are all values of a cube within their fields? -/
def Fit24 (c : Nat → Int) : Prop := ∀ j, j < 12 → fitB j (c j) = true ∧ fitB j (c (12 + j)) = true
theorem fromTo_next (c : Nat → Int) (hc : Wf c) (hf : Fit24 c) (r : Nat) : cc (fromTo c r (sz r).toNat) = cc (fromTo c (r + 1) 0) := by
  refine cc_ext (cc_size _) fun j hj => ?_
  rw [cc_at _ j hj]
  unfold fromTo
  obtain ⟨q12, qj⟩ := fld_cases hj
  generalize fld j = q at *
  by_cases h1 : q < r
  · rw [if_pos h1, if_pos (by omega)]
  · by_cases h2 : q = r
    · rw [if_neg h1, if_pos h2, if_pos (by omega), topB_all]
    · rw [if_neg h1, if_neg h2, if_neg (by omega)]
      by_cases h3 : q = r + 1
      · rw [if_pos h3, topB_zero (hc j).1]
        have := hf q q12
        rw [fit_nat q _ (hc q).1, fit_nat q _ (hc (12 + q)).1] at this
        rw [← h3]
        rcases qj with e | e
        · rw [e]; exact this.1
        · rw [e]; exact this.2
      · rw [if_neg h3]
theorem fromTo_start (c : Nat → Int) (hc : Wf c) (hf : Fit24 c) : cc (fromTo c 0 0) = cc zh := by
  refine cc_ext (cc_size _) fun j hj => ?_
  rw [cc_at _ j hj]
  unfold fromTo zh
  obtain ⟨_, qj⟩ := fld_cases hj
  generalize fld j = q at *
  rw [if_neg (by omega)]
  by_cases h3 : q = 0
  · rw [if_pos h3, topB_zero (hc j).1]
    have := hf 0 (by omega)
    rw [fit_nat 0 _ (hc 0).1, fit_nat 0 _ (hc (12 + 0)).1] at this
    subst h3
    rcases qj with e | e
    · rw [e]; exact this.1
    · rw [e]; exact this.2
  · rw [if_neg h3]
theorem fromTo_end (c : Nat → Int) : cc (fromTo c 12 0) = cc c := by
  refine cc_ext (cc_size _) fun j hj => ?_
  rw [cc_at _ j hj]
  unfold fromTo
  rw [if_pos (fld_cases hj).1]
/-- the rows of From -/
def FromS (w : World) (f : Nat → Int) (W : World) : Prop := Blk w.heap.size #[Value.int IntKind.u64 0, Value.int IntKind.u64 0, Value.int IntKind.u64 0, Value.int IntKind.u64 0, Value.int IntKind.u64 0, Value.int IntKind.u64 0, Value.int IntKind.u64 0, Value.int IntKind.u64 0, Value.int IntKind.u64 0, Value.int IntKind.u64 0, Value.int IntKind.u64 0, Value.int IntKind.u64 0, Value.int IntKind.u64 0, Value.int IntKind.u64 0, Value.int IntKind.u64 0, Value.int IntKind.u64 0, Value.int IntKind.u64 0, Value.int IntKind.u64 0, Value.int IntKind.u64 0, Value.int IntKind.u64 0, Value.int IntKind.u64 0, Value.int IntKind.u64 0, Value.int IntKind.u64 0, Value.int IntKind.u64 0] 30 W ∧ Blk (w.heap.size + 1) (cc f) 30 W ∧ Below w.heap.size w W
theorem FromS.below {w : World} {f : Nat → Int} {W W' : World} (hb : Below W.heap.size W W') (h : FromS w f W) : FromS w f W' := ⟨h.1.below hb, h.2.1.below hb, h.2.2.trans (hb.mono h.2.2.size)⟩
theorem FromS.set {w : World} {f : Nat → Int} {W : World} (h : FromS w f W) {k : Nat} (hk : k < 24) (x : Int) : FromS w (upd f k x) (W.setCell ⟨w.heap.size + 1, k, none⟩ (.int .u64 x)) :=
  ⟨h.1.cother (by omega) _, h.2.1.cset hk x, h.2.2.setCell (by show w.heap.size ≤ w.heap.size + 1; omega) _⟩
theorem upd_twice (f : Nat → Int) (k : Nat) (x y : Int) : upd (upd f k x) k y = upd f k y := by funext j; unfold upd; split <;> rfl
theorem upd_swap (f : Nat → Int) {i k : Nat} (h : i ≠ k) (x y : Int) : upd (upd f i x) k y = upd (upd f k y) i x := by
  funext j; unfold upd
  by_cases e1 : j = k
  · subst e1; rw [if_pos rfl, if_neg (Ne.symm h), if_pos rfl]
  · rw [if_neg e1]
    by_cases e2 : j = i
    · rw [if_pos e2, if_pos e2]
    · rw [if_neg e2, if_neg e2, if_neg e1]
end Go.Proofs.YtamjaohoicedfaaDoor
