/-
  Slices of one-cell elements that a call makes; the walk of the reference's Bits.
-/
import Derived.Test.YtamjaohoicedfaaDoorCubeLes
namespace Go.Proofs.YtamjaohoicedfaaDoor
open Go.RowKit

/-- a slice value holds a list of one-cell values, in memory of its own from a block on -/
def Own1 (e : TypeId) (base : Nat) (v : Value) (xs : List Value) (W : World) : Prop := W.ownsRow base e 1 v xs.length xs
section
variable {e : TypeId} {base : Nat} {v : Value} {xs : List Value} {W W' : World}
theorem Own1.nil (e : TypeId) (base : Nat) (W : World) : Own1 e base (.slice none 0 0) [] W := World.ownsRow_nil W base _ 1
theorem Own1.below (h : Own1 e base v xs W) (hb : Below W.heap.size W W') : Own1 e base v xs W' := by
  rcases h with ⟨h1, h2 | ⟨g, cap, cur, e1, e2, e3, e4⟩⟩
  · exact ⟨h1, .inl h2⟩
  · exact ⟨h1, .inr ⟨g, cap, cur, e1, e2, (hb.block g (Array.getElem?_eq_some_iff.1 e3).1).trans e3, e4⟩⟩
theorem Own1.mono {base' : Nat} (h : Own1 e base v xs W) (hb : base' ≤ base) : Own1 e base' v xs W := by
  rcases h with ⟨h1, h2 | ⟨g, cap, cur, e1, e2, e3⟩⟩
  · exact ⟨h1, .inl h2⟩
  · exact ⟨h1, .inr ⟨g, cap, cur, e1, by omega, e3⟩⟩
theorem Own1.ge (h : Own1 e base v xs W) : ∀ k, v.ownBlock = some k → base ≤ k := by
  rcases h with ⟨_, ⟨rfl, _⟩ | ⟨g, cap, cur, rfl, e2, _⟩⟩
  · intro k hk; cases hk
  · intro k hk; injection hk with hk; subst hk; exact e2
theorem Own1.form (h : Own1 e base v xs W) : ∃ p cap, v = .slice p xs.length cap := by
  rcases h with ⟨_, ⟨rfl, h2⟩ | ⟨g, cap, cur, e1, _⟩⟩
  · exact ⟨none, 0, by rw [h2]⟩
  · exact ⟨_, cap, e1⟩
theorem Own1.at {g n cap : Nat} (h : Own1 e base (.slice (some ⟨g, 0, none⟩) n cap) xs W) {i : Nat} {x : Value} (hx : xs[i]? = some x) : W.cell? ⟨g, i, none⟩ = some x := by
  rcases h with ⟨_, ⟨e, _⟩ | ⟨g', cap', cur, e1, _, e3, _, _, _, e7⟩⟩
  · cases e
  · injection e1 with e1 _ _
    injection e1 with e1
    injection e1 with e1
    subst e1
    have hi : i < xs.length := (List.getElem?_eq_some_iff.1 hx).1
    rw [← e7, List.getElem?_take_of_lt (by omega)] at hx
    rw [cell_of_row W g _ cur _ _ e3, ← Array.getElem?_toList]
    exact hx
theorem Own1.grown {row : Option Nat} (h : Own1 e base v xs W) (hg : W.grownBy W' row) (hne : v.ownBlock = none ∨ v.ownBlock ≠ row) : Own1 e base v xs W' := World.ownsRow.kept h hg hne
theorem Own1.lt (h : Own1 e base v xs W) : ∀ k, v.ownBlock = some k → base ≤ k ∧ k < W.heap.size := World.ownsRow.lt h
theorem Own1.block (h : Own1 e base v xs W) (hn : 0 < xs.length) : ∃ g cap, v = .slice (some ⟨g, 0, none⟩) xs.length cap ∧ base ≤ g ∧ g < W.heap.size := World.ownsRow.form h hn
end
/-- what is known of a type of one cell -/
def OneCell (t : TypeId) : Prop := ∃ (i : TypeInfo) (z : Value), Tryd.prog.info? t = some i ∧ i.zero = some z ∧ i.size = 1 ∧ i.bytes ≤ 16 ∧ z.cells.size = 1
theorem oneCell_of {t : TypeId} (h1 : (Tryd.prog.info? t).map (·.size) = some 1) (h2 : (Tryd.prog.info? t).map (fun i => decide (i.bytes ≤ 16)) = some true) (h3 : ((Tryd.prog.info? t).bind (·.zero)).map (·.cells.size) = some 1) : OneCell t := by
  cases hi : Tryd.prog.info? t with
  | none => rw [hi] at h1; cases h1
  | some i =>
    rw [hi] at h1 h2 h3
    simp only [Option.map_some, Option.some.injEq, Option.bind_some, Option.map_eq_some_iff, decide_eq_true_eq] at h1 h2 h3
    obtain ⟨z, hz, hc⟩ := h3
    exact ⟨i, z, hi, hz, h1, h2, hc⟩
theorem boolCell : OneCell 4 := oneCell_of (by kernel_rfl) (by kernel_rfl) (by kernel_rfl)
theorem byteCell : OneCell 5 := oneCell_of (by kernel_rfl) (by kernel_rfl) (by kernel_rfl)
/-- One value more at a slice of one's own. -/
theorem appendOne {ops : Array Oper} {rest : List Oper} {o : Oper} {a : Act} {w : World} {Q : Exit → Act → World → Prop} (hgd : o.guard = none) (s x : Operand) (t : TypeId) {e : TypeId} (hu : Tryd.prog.underlying t = some (.slice e)) (he : OneCell e)
    (ho : o.op = .call { callee := .builtin .append, args := #[s, x], argTypes := #[t, t] }) (base : Nat) (v : Value) (l : List Value) (c : Value) (hs : a.eval s = v) (hown : Own1 e base v l w)
    (B : Nat) (hx : a.eval x = .slice (some ⟨B, 0, none⟩) 1 1) (hB : Blk B #[c] e w) (hc : c.oneCell' = true) (hbase : base ≤ w.heap.size) (hlen : l.length ≤ 1000000)
    (h : ∀ v' w', Own1 e base v' (l ++ [c]) w' → w.grownBy w' v.ownBlock → (v'.ownBlock = v.ownBlock ∨ v'.ownBlock = some w.heap.size) → wpList Tryd.prog ops Q rest (a.put o.dst v') w') : wpList Tryd.prog ops Q (o :: rest) a w := by
  obtain ⟨i, z, hi, hz, hsz, hby, hzc⟩ := he
  refine wpList_append_lies w hgd s x t ho base e i z 1 i.bytes hu hi hz hsz rfl hzc (by decide) v l.length l hs hown ⟨B, 0, none⟩ 1 1 [c] hx rfl
    (World.news_of_block hB) (fun u hu => by rw [List.mem_singleton.1 hu]; exact hc) (by decide) (by unfold maxLen; omega) ?_ hbase _ rfl fun g cap w' h1 h2 h3 _ => h _ w' ?_ h2 (h3.elim (fun e => .inl e.symm) (fun e => .inr (by rw [e]; rfl)))
  · have := Nat.mul_le_mul (show l.length + 1 ≤ 1000001 by omega) hby
    omega
  · unfold Own1
    rw [List.length_append]
    exact h1
/-- the bits of a number of so many, the highest first -/
def bitL (x : Int) (n : Nat) : List Value := (List.range n).map fun k => .bool (x.toNat.testBit (n - 1 - k))
def BitsRet (w : World) (l : List Value) (e : Ending) (w' : World) : Prop := ∃ v, e = .returned v ∧ Own1 4 w.heap.size v l w' ∧ Below w.heap.size w w'
theorem shr_bit (x : Int) (hx : 0 ≤ x ∧ x < 18446744073709551616) (k : Nat) : (bits .and .u64 (x / 2 ^ k) 1 == 1) = x.toNat.testBit k := by
  obtain ⟨n, rfl⟩ := Int.eq_ofNat_of_zero_le hx.1
  have hp : (2 : Int) ^ k = ((2 ^ k : Nat) : Int) := by push_cast; rfl
  rw [hp, ← Int.natCast_ediv]
  have hle : n / 2 ^ k ≤ n := Nat.div_le_self _ _
  rw [Int.toNat_natCast, Nat.testBit_eq_decide_div_mod_eq]
  generalize n / 2 ^ k = q at *
  rw [u64_and _ _ (by omega) (by omega) (by decide) (by decide), Int.toNat_natCast, show (1 : Int).toNat = 1 from rfl, Nat.and_one_is_mod]
  by_cases h : q % 2 = 1
  · simp [h]
  · have : q % 2 = 0 := by omega
    simp [this]
theorem bitL_len (x : Int) (n : Nat) : (bitL x n).length = n := by simp [bitL]
theorem bitL_at (x : Int) (n m : Nat) (h : m < n) : (bitL x n)[m]? = some (.bool (x.toNat.testBit (n - 1 - m))) := by simp [bitL, h]
theorem take_next {l : List Value} {m : Nat} {x : Value} (h : l[m]? = some x) : l.take (m + 1) = l.take m ++ [x] := by
  rw [List.take_add_one, h]; rfl
set_option maxHeartbeats 400000 in
theorem rbits_any (x : Int) (hx : 0 ≤ x ∧ x < 18446744073709551616) (n : Nat) (hn : n ≤ 48) (w : World) :
    Calls Tryd.prog 42 #[.int .u64 x, .int .i64 n] w (BitsRet w (bitL x n)) := by
  have HX := Lib.hid hx
  clear hx
  go_enter Tryd.func42, Tryd.ntmps42
  go_wp2
  go_loopg [5, 6] n (fun g out k wr => ∃ m : Nat, m + g = n ∧ k = .int .i64 ((n : Int) - 1 - m) ∧ Own1 4 w.heap.size out ((bitL x n).take m) wr ∧ Below w.heap.size w wr)
  case atStart => exact ⟨0, by omega, by simp, Own1.nil _ _ _, Below.refl _ _⟩
  case round =>
    obtain ⟨m, hm, rfl, ho, hB⟩ := hrel
    have HO := Lib.hid ho
    have HB := Lib.hid hB
    clear ho hB
    by_cases hlt : m < n
    · obtain ⟨k, hk⟩ : ∃ k : Nat, (n : Int) - 1 - m = k := ⟨n - 1 - m, by omega⟩
      have hk48 : k < 48 := by omega
      have hbit := shr_bit x HX.out k
      have HN := Lib.hid (take_next (bitL_at x n m hlt))
      rw [show n - 1 - m = k by omega] at HN
      have hlen : ((bitL x n).take m).length ≤ 1000000 := by rw [List.length_take, bitL_len]; omega
      have HK := Lib.hid hk
      rw [hk]
      clear hk
      have B1 := Lib.hid (Blk.new wr #[.bool (x.toNat.testBit k)] 4)
      have O1 := Lib.hid (HO.out.below (below1 wr (.cells #[.bool (x.toNat.testBit k)] 4)))
      have hsz : w.heap.size ≤ (wr.alloc (.cells #[.bool (x.toNat.testBit k)] 4)).heap.size := by have := HB.out.size; simp; omega
      go_wp2_with (refine appendOne rfl _ _ 55 Tryd.underlying55 boolCell rfl w.heap.size u5 _ (.bool (x.toNat.testBit k)) rfl O1.out wr.heap.size rfl B1.out rfl hsz hlen (fun v' w' ho hg _ => ?_))
      rw [← HN.out] at ho
      have HB1 := Lib.hid ((HB.out.alloc HB.out.size (.cells #[.bool (x.toNat.testBit k)] 4)).grown hg hsz O1.out.ge)
      have HO1 := Lib.hid ho
      clear ho hg B1 O1 HO HB
      go_roundg (n - (m + 1))
      case measure => omega
      case rel => exact ⟨m + 1, by omega, by have := HK.out; go_num, HO1.out, HB1.out⟩
    · obtain rfl : m = n := by omega
      have hneg : (m : Int) - 1 - m = -1 := by omega
      rw [hneg]
      have e := HO.out
      rw [List.take_of_length_le (by rw [bitL_len]; omega)] at e
      have HE := Lib.hid e
      clear e
      go_wp2
      go_ret
      exact ⟨_, rfl, HE.out, HB.out⟩
end Go.Proofs.YtamjaohoicedfaaDoor
