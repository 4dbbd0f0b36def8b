/-
  The walks of the program's highest and Less.
-/
import Derived.Test.YtamjaohoicedfaaDoorCubeBit
import Derived.Test.YtamjaohoicedfaaDoorCubeEq
import Derived.Deep.AppendLies
import Derived.Deep.DeepCutAuto
import Derived.Great.BuildSlice
import Derived.Laws.OwnMore
namespace Go.Proofs.YtamjaohoicedfaaDoor
open Go.RowKit

theorem highest_any (n : Nat) (h0 : n ≠ 0) (h : n < 18446744073709551616) (w : World) :
    Calls Tryd.prog 49 #[.int .u64 n] w fun e w' => e = .returned (.int .u64 (2 ^ hiB n)) ∧ w = w' := by
  obtain ⟨b1, b2, b3, b4⟩ := hiB_spec n h0 h
  have HL := Lib.hid (len64_any n w (by omega) (by omega))
  rw [Int.toNat_natCast, b1] at HL
  have hw := pow_u64 b4
  have HW := Lib.hid (u64_in hw.1 hw.2)
  clear b1 b2 b3 h h0 hw
  generalize hiB n = t at *
  go_enter Tryd.func49, Tryd.ntmps49
  go_wp2_with (go_at_call 54; refine HL.out.mono ?_; rintro e w' ⟨rfl, rfl⟩)
  go_ret
  exact ⟨ret_int HW.out, rfl⟩
/-- the cells of a list of cubes, one behind the other -/
def flat (l : List (Nat → Int)) : List Value := l.flatMap cl
/-- a slice value holds a list of cubes, in memory of its own from a block on -/
def Owns (base : Nat) (v : Value) (l : List (Nat → Int)) (W : World) : Prop := W.ownsRow base 30 24 v l.length (flat l)
theorem cl_len (a : Nat → Int) : (cl a).length = 24 := by simp [cl]
theorem flat_len : ∀ l : List (Nat → Int), (flat l).length = l.length * 24
  | [] => rfl
  | a :: l => by
    have := flat_len l
    unfold flat at this ⊢
    rw [List.flatMap_cons, List.length_append, this, cl_len, List.length_cons]
    omega
theorem flat_snoc (l : List (Nat → Int)) (a : Nat → Int) : flat (l ++ [a]) = flat l ++ cl a := by simp [flat]
theorem Owns.nil (base : Nat) (W : World) : Owns base (.slice none 0 0) [] W := World.ownsRow_nil W base _ 24
theorem Owns.below {base : Nat} {v : Value} {l : List (Nat → Int)} {W W' : World} (h : Owns base v l W) (hb : Below W.heap.size W W') : Owns base v l W' := by
  rcases h with ⟨h1, h2 | ⟨g, cap, cur, e1, e2, e3, e4⟩⟩
  · exact ⟨h1, .inl h2⟩
  · exact ⟨h1, .inr ⟨g, cap, cur, e1, e2, (hb.block g (Array.getElem?_eq_some_iff.1 e3).1).trans e3, e4⟩⟩
theorem Owns.other {base : Nat} {v : Value} {l : List (Nat → Int)} {W W' : World} (h : Owns base v l W) (hb : ∀ g, base ≤ g → g < W.heap.size → W'.heap[g]? = W.heap[g]?) : Owns base v l W' := by
  rcases h with ⟨h1, h2 | ⟨g, cap, cur, e1, e2, e3, e4⟩⟩
  · exact ⟨h1, .inl h2⟩
  · exact ⟨h1, .inr ⟨g, cap, cur, e1, e2, (hb g e2 (Array.getElem?_eq_some_iff.1 e3).1).trans e3, e4⟩⟩
theorem Owns.mono {base base' : Nat} {v : Value} {l : List (Nat → Int)} {W : World} (h : Owns base v l W) (hb : base' ≤ base) : Owns base' v l W := by
  rcases h with ⟨h1, h2 | ⟨g, cap, cur, e1, e2, e3⟩⟩
  · exact ⟨h1, .inl h2⟩
  · exact ⟨h1, .inr ⟨g, cap, cur, e1, by omega, e3⟩⟩
theorem Owns.form {base : Nat} {v : Value} {l : List (Nat → Int)} {W : World} (h : Owns base v l W) : ∃ p cap, v = .slice p l.length cap := by
  rcases h with ⟨_, ⟨rfl, h2⟩ | ⟨g, cap, cur, e1, _⟩⟩
  · exact ⟨none, 0, by rw [h2]⟩
  · exact ⟨_, cap, e1⟩
/-- what Less returns -/
def LessRet (w : World) (l : List (Nat → Int)) (e : Ending) (w' : World) : Prop := ∃ v, e = .returned v ∧ Owns w.heap.size v l w' ∧ Below w.heap.size w w'
theorem cubeInfo : ∃ (i : TypeInfo) (z : Value), Tryd.prog.info? 30 = some i ∧ i.zero = some z ∧ i.size = 24 ∧ i.bytes = 192 ∧ z.cells = #[Value.int IntKind.u64 0, Value.int IntKind.u64 0, Value.int IntKind.u64 0, Value.int IntKind.u64 0, Value.int IntKind.u64 0, Value.int IntKind.u64 0, Value.int IntKind.u64 0, Value.int IntKind.u64 0, Value.int IntKind.u64 0, Value.int IntKind.u64 0, Value.int IntKind.u64 0, Value.int IntKind.u64 0, Value.int IntKind.u64 0, Value.int IntKind.u64 0, Value.int IntKind.u64 0, Value.int IntKind.u64 0, Value.int IntKind.u64 0, Value.int IntKind.u64 0, Value.int IntKind.u64 0, Value.int IntKind.u64 0, Value.int IntKind.u64 0, Value.int IntKind.u64 0, Value.int IntKind.u64 0, Value.int IntKind.u64 0] := by
  obtain ⟨i, hi⟩ : ∃ i, Tryd.prog.info? 30 = some i := Option.isSome_iff_exists.1 (by kernel_rfl)
  have h1 : (Tryd.prog.info? 30).map (·.size) = some 24 := by kernel_rfl
  have h2 : (Tryd.prog.info? 30).map (·.bytes) = some 192 := by kernel_rfl
  have h3 : ((Tryd.prog.info? 30).bind (·.zero)).map (·.cells) = some #[Value.int IntKind.u64 0, Value.int IntKind.u64 0, Value.int IntKind.u64 0, Value.int IntKind.u64 0, Value.int IntKind.u64 0, Value.int IntKind.u64 0, Value.int IntKind.u64 0, Value.int IntKind.u64 0, Value.int IntKind.u64 0, Value.int IntKind.u64 0, Value.int IntKind.u64 0, Value.int IntKind.u64 0, Value.int IntKind.u64 0, Value.int IntKind.u64 0, Value.int IntKind.u64 0, Value.int IntKind.u64 0, Value.int IntKind.u64 0, Value.int IntKind.u64 0, Value.int IntKind.u64 0, Value.int IntKind.u64 0, Value.int IntKind.u64 0, Value.int IntKind.u64 0, Value.int IntKind.u64 0, Value.int IntKind.u64 0] := by kernel_rfl
  rw [hi] at h1 h2 h3
  simp only [Option.map_some, Option.some.injEq, Option.bind_some, Option.map_eq_some_iff] at h1 h2 h3
  obtain ⟨z, hz, hc⟩ := h3
  exact ⟨i, z, hi, hz, h1, h2, hc⟩

set_option maxHeartbeats 400000 in
theorem cless_l (a b : Nat → Int) (a0 : ∀ j, 0 ≤ a j) (w : World) (ht : Tab w) (hz : 0 < w.heap.size) (hs : csnd a = false) :
    Calls Tryd.prog 33 #[.agg (cc a), .agg (cc b)] w fun e w' => e = .returned (.slice none 0 0) ∧ Below w.heap.size w w' := by
  have HE := Lib.hid (((Env.start ht hz).alloc (.cells (cc a) 30)).alloc (.cells (cc b) 30))
  have R0 := Lib.hid ((Blk.new w (cc a) 30).old (.cells (cc b) 30))
  have A0 := Lib.hid a0
  clear ht a0
  go_enter Tryd.func33, Tryd.ntmps33
  go_wp2_with (refine wpList_load_row rfl 30 _ rfl w.heap.size rfl 30 (cc a) (0, 0) _ R0.out Tryd.underlying30 rfl (by kernel_rfl) ?_)
  refine (csound_any a A0.out _ HE.out.tab HE.out.lt).mono ?_
  rintro e w1 ⟨rfl, hw1⟩
  have HB := Lib.hid (HE.out.below hw1).kept
  clear hw1 HE R0
  go_wp2
  go_ret
  exact ⟨rfl, HB.out⟩
set_option maxHeartbeats 400000 in
theorem cless_r (a b : Nat → Int) (a0 : ∀ j, 0 ≤ a j) (b0 : ∀ j, 0 ≤ b j) (w : World) (ht : Tab w) (hz : 0 < w.heap.size) (hs : csnd a = true) (hb : csnd b = false) :
    Calls Tryd.prog 33 #[.agg (cc a), .agg (cc b)] w fun e w' => e = .returned (.slice none 0 0) ∧ Below w.heap.size w w' := by
  have HE := Lib.hid (((Env.start ht hz).alloc (.cells (cc a) 30)).alloc (.cells (cc b) 30))
  have R0 := Lib.hid ((Blk.new w (cc a) 30).old (.cells (cc b) 30))
  have R1 := Lib.hid (Blk.new2 w (.cells (cc a) 30) (cc b) 30)
  have A0 := Lib.hid a0
  have B0 := Lib.hid b0
  clear ht a0 b0
  go_enter Tryd.func33, Tryd.ntmps33
  go_wp2_with (refine wpList_load_row rfl 30 _ rfl w.heap.size rfl 30 (cc a) (0, 0) _ R0.out Tryd.underlying30 rfl (by kernel_rfl) ?_)
  refine (csound_any a A0.out _ HE.out.tab HE.out.lt).mono ?_
  rintro e w1 ⟨rfl, hw1⟩
  have R11 := Lib.hid (R1.out.below hw1)
  have HE1 := Lib.hid (HE.out.below hw1)
  clear hw1 HE R0 R1
  go_wp2_with (refine loadRowG rfl 30 _ rfl (w.heap.size + 1) rfl 30 (cc b) (0, 0) R11.out Tryd.underlying30 rfl (by kernel_rfl) ?_)
  refine (csound_any b B0.out _ HE1.out.tab HE1.out.lt).mono ?_
  rintro e w2 ⟨rfl, hw2⟩
  have HB := Lib.hid (HE1.out.below hw2).kept
  clear hw2 HE1 R11
  go_wp2
  go_ret
  exact ⟨rfl, HB.out⟩
theorem fillCube {ie : TypeInfo} {z : Value} (a : Nat → Int) (h1 : ie.size = 24) (h2 : z.cells = #[Value.int IntKind.u64 0, Value.int IntKind.u64 0, Value.int IntKind.u64 0, Value.int IntKind.u64 0, Value.int IntKind.u64 0, Value.int IntKind.u64 0, Value.int IntKind.u64 0, Value.int IntKind.u64 0, Value.int IntKind.u64 0, Value.int IntKind.u64 0, Value.int IntKind.u64 0, Value.int IntKind.u64 0, Value.int IntKind.u64 0, Value.int IntKind.u64 0, Value.int IntKind.u64 0, Value.int IntKind.u64 0, Value.int IntKind.u64 0, Value.int IntKind.u64 0, Value.int IntKind.u64 0, Value.int IntKind.u64 0, Value.int IntKind.u64 0, Value.int IntKind.u64 0, Value.int IntKind.u64 0, Value.int IntKind.u64 0]) :
    Instr.fill (fun i => some (i * ie.size, ie.size)) ((Array.range (1 * ie.size)).map (z.cells[· % z.cells.size]!)) [(0, .agg (cc a))] = some (cc a) := by
  rw [h1, h2]
  kernel_rfl
/-- A slice of one cube, written out. -/
theorem buildCube {ops : Array Oper} {rest : List Oper} {o : Oper} {a : Act} {w : World} {Q : Exit → Act → World → Prop} (hg : o.guard = none) (x : Operand) (ho : o.op = .buildSlice 22 1 #[(0, x)]) (c : Nat → Int) (hx : a.eval x = .agg (cc c))
    (h : wpList Tryd.prog ops Q rest (a.put o.dst (.slice (some ⟨w.heap.size, 0, none⟩) 1 1)) (w.alloc (.cells (cc c) 30))) : wpList Tryd.prog ops Q (o :: rest) a w := by
  obtain ⟨i, z, hi, hz, hs, hb, hc⟩ := cubeInfo
  refine wpList_buildSlice hg 22 30 1 _ ho (cc c) i z Tryd.underlying22 hi hz (by rw [hs]; decide) (by rw [hs]; decide) ?_ h
  have e : ((#[(0, x)] : Array (Nat × Operand)).map fun (p : Nat × Operand) => (p.1, a.eval p.2)).toList = [(0, .agg (cc c))] := by simp [hx]
  exact (congrArg (Instr.fill (fun i' => some (i' * i.size, i.size)) ((Array.range (1 * i.size)).map (z.cells[· % z.cells.size]!))) e).trans (fillCube c hs hc)
set_option maxHeartbeats 1000000 in
theorem cless_apart (a b m : Nat → Int) (a0 : ∀ j, 0 ≤ a j) (b0 : ∀ j, 0 ≤ b j) (hm : ∀ W, Tab W → 0 < W.heap.size → Calls Tryd.prog 31 #[.agg (cc a), .agg (cc b)] W fun e w' => e = .returned (.tuple #[.agg (cc m), .bool false]) ∧ Below W.heap.size W w')
    (w : World) (ht : Tab w) (hz : 0 < w.heap.size) (hs : csnd a = true) (hb : csnd b = true) :
    Calls Tryd.prog 33 #[.agg (cc a), .agg (cc b)] w (LessRet w [a]) := by
  have HE := Lib.hid (((Env.start ht hz).alloc (.cells (cc a) 30)).alloc (.cells (cc b) 30))
  have R0 := Lib.hid ((Blk.new w (cc a) 30).old (.cells (cc b) 30))
  have R1 := Lib.hid (Blk.new2 w (.cells (cc a) 30) (cc b) 30)
  have A0 := Lib.hid a0
  have B0 := Lib.hid b0
  have HM := Lib.hid hm
  clear ht a0 b0 hm
  go_enter Tryd.func33, Tryd.ntmps33
  go_wp2_with (refine wpList_load_row rfl 30 _ rfl w.heap.size rfl 30 (cc a) (0, 0) _ R0.out Tryd.underlying30 rfl (by kernel_rfl) ?_)
  refine (csound_any a A0.out _ HE.out.tab HE.out.lt).mono ?_
  rintro e w1 ⟨rfl, hw1⟩
  have R01 := Lib.hid (R0.out.below hw1)
  have R11 := Lib.hid (R1.out.below hw1)
  have HE1 := Lib.hid (HE.out.below hw1)
  clear hw1 HE R0 R1
  go_wp2_with (refine loadRowG rfl 30 _ rfl (w.heap.size + 1) rfl 30 (cc b) (0, 0) R11.out Tryd.underlying30 rfl (by kernel_rfl) ?_)
  refine (csound_any b B0.out _ HE1.out.tab HE1.out.lt).mono ?_
  rintro e w2 ⟨rfl, hw2⟩
  have R02 := Lib.hid (R01.out.below hw2)
  have R12 := Lib.hid (R11.out.below hw2)
  have HE2 := Lib.hid (HE1.out.below hw2)
  clear hw2 HE1 R01 R11
  go_wp2_with (first
    | (refine wpList_load_row rfl 30 _ rfl w.heap.size rfl 30 (cc a) (0, 0) _ R02.out Tryd.underlying30 rfl (by kernel_rfl) ?_)
    | (refine wpList_load_row rfl 30 _ rfl (w.heap.size + 1) rfl 30 (cc b) (0, 0) _ R12.out Tryd.underlying30 rfl (by kernel_rfl) ?_))
  refine (HM.out _ HE2.out.tab HE2.out.lt).mono ?_
  rintro e w3 ⟨rfl, hw3⟩
  have R03 := Lib.hid ((R02.out.below hw3).old (.cells (cc m) 30))
  have HB := Lib.hid ((HE2.out.below hw3).alloc (.cells (cc m) 30)).kept
  clear hw3 HE2 R02 R12 HM
  go_wp2_with (first
    | (refine wpList_store_row rfl 30 _ _ rfl w3.heap.size (cc m) rfl rfl 30 _ (heap_alloc_new _ _) (by kernel_rfl) rfl (cc_one _) ?_; rw [World.setRow_alloc_new])
    | (refine wpList_load_row rfl 30 _ rfl w.heap.size rfl 30 (cc a) (0, 0) _ R03.out Tryd.underlying30 rfl (by kernel_rfl) ?_)
    | (refine buildCube rfl _ rfl a rfl ?_))
  go_ret
  refine ⟨_, rfl, ?_, HB.out.alloc (by have := HB.out.size; omega) _⟩
  have hsz : w.heap.size ≤ (w3.alloc (.cells (cc m) 30)).heap.size := HB.out.size
  have := World.ownsRow_lit (base := w.heap.size) (e := 30) (size := 24) (w3.alloc (.cells (cc m) 30)) (cc a) 1 hsz (by unfold maxLen; decide) (by rw [cc_size])
  simpa [Owns, flat, cc] using this
theorem Owns.ge {base : Nat} {v : Value} {l : List (Nat → Int)} {W : World} (h : Owns base v l W) : ∀ k, v.ownBlock = some k → base ≤ k := by
  rcases h with ⟨_, ⟨rfl, _⟩ | ⟨g, cap, cur, rfl, e2, _⟩⟩
  · intro k hk; cases hk
  · intro k hk; injection hk with hk; subst hk; exact e2
theorem cl_one (a : Nat → Int) : ∀ u ∈ cl a, u.oneCell' = true := by
  intro u hu
  simp only [cl, List.mem_map] at hu
  obtain ⟨j, _, rfl⟩ := hu
  rfl
/-- One cube more at a slice of one's own. -/
theorem appendCube {ops : Array Oper} {rest : List Oper} {o : Oper} {a : Act} {w : World} {Q : Exit → Act → World → Prop} (hgd : o.guard = none) (s x : Operand)
    (ho : o.op = .call { callee := .builtin .append, args := #[s, x], argTypes := #[22, 22] }) (base : Nat) (v : Value) (l : List (Nat → Int)) (c : Nat → Int) (hs : a.eval s = v) (hown : Owns base v l w)
    (B : Nat) (hx : a.eval x = .slice (some ⟨B, 0, none⟩) 1 1) (hB : Blk B (cc c) 30 w) (hbase : base ≤ w.heap.size) (hlen : l.length ≤ 1000000)
    (h : ∀ v' w', Owns base v' (l ++ [c]) w' → w.grownBy w' v.ownBlock → wpList Tryd.prog ops Q rest (a.put o.dst v') w') : wpList Tryd.prog ops Q (o :: rest) a w := by
  obtain ⟨i, z, hi, hz, hsz, hby, hc⟩ := cubeInfo
  refine wpList_append_lies w hgd s x 22 ho base 30 i z 24 192 Tryd.underlying22 hi hz hsz hby (by rw [hc]; rfl) (by decide) v l.length (flat l) hs hown ⟨B, 0, none⟩ 1 1 (cl c) hx (cl_len c)
    (World.news_of_block hB) (cl_one c) (by decide) (by unfold maxLen; omega) (by omega) hbase _ rfl fun g cap w' h1 h2 _ _ => h _ w' ?_ h2
  unfold Owns
  rw [List.length_append, flat_snoc]
  exact h1
/-- the rows of Less while it goes over the bits -/
def LessAt (w : World) (b c : Nat → Int) (v : Value) (l : List (Nat → Int)) (W : World) : Prop :=
  Blk w.heap.size (cc c) 30 W ∧ Blk (w.heap.size + 1) (cc b) 30 W ∧ Owns (w.heap.size + 2) v l W ∧ Below w.heap.size w W
section
variable {w : World} {b c : Nat → Int} {v : Value} {l : List (Nat → Int)} {W : World}
theorem LessAt.below {W' : World} (h : LessAt w b c v l W) (hb : Below W.heap.size W W') : LessAt w b c v l W' := ⟨h.1.below hb, h.2.1.below hb, h.2.2.1.below hb, h.2.2.2.trans (hb.mono h.2.2.2.size)⟩
theorem LessAt.drewN (h : LessAt w b c v l W) (n : Nat) : LessAt w b c v l (W.drewN n) := h.below (belowDrewN W n)
theorem LessAt.lt (h : LessAt w b c v l W) : w.heap.size + 1 < W.heap.size := h.2.1.lt
theorem LessAt.set (h : LessAt w b c v l W) {k : Nat} (hk : k < 24) (x : Int) : LessAt w b (upd c k x) v l (W.setCell ⟨w.heap.size, k, none⟩ (.int .u64 x)) :=
  ⟨h.1.cset hk x, h.2.1.cother (by omega) _, h.2.2.1.other fun g hg _ => heap_setCell_other W _ g _ (by show g ≠ w.heap.size; omega), h.2.2.2.setCell (Nat.le_refl _) _⟩
theorem LessAt.grown {W' : World} {v' : Value} {x : Nat → Int} (h : LessAt w b c v l W) (h' : Owns (w.heap.size + 2) v' (l ++ [x]) W') (hg : W.grownBy W' v.ownBlock) : LessAt w b c v' (l ++ [x]) W' := by
  have hge := h.2.2.1.ge
  have hne : ∀ k, k < w.heap.size + 2 → some k ≠ v.ownBlock := fun k hk e => by have := hge k e.symm; omega
  exact ⟨(hg.block _ h.1.lt (hne _ (by omega))).trans h.1, (hg.block _ h.2.1.lt (hne _ (by omega))).trans h.2.1, h', h.2.2.2.grown hg h.2.2.2.size fun k e => by have := hge k e; omega⟩
end
/-- the bits of a number below a place -/
def lowN (L n : Nat) : Nat := L % 2 ^ n
theorem upd_ne (c : Nat → Int) {k j : Nat} (x : Int) (h : j ≠ k) : upd c k x j = c j := if_neg h
theorem upd_eq (c : Nat → Int) (k : Nat) (x : Int) : upd c k x k = x := if_pos rfl
/-- what one round of Less takes of its number -/
theorem less_step (b : Nat → Int) (i L : Nat) (c : Nat → Int) (n : Nat) (hn : n ≤ 64) (h0 : lowN L n ≠ 0) (hL : L < 18446744073709551616) :
    ∃ (t : Nat) (x' : Nat), t < n ∧ Hid (goBits b i L n c = (pieceC b c i (2 ^ t) :: (goBits b i L t (stepC b c i (2 ^ t))).1, (goBits b i L t (stepC b c i (2 ^ t))).2)) ∧
      Hid (∀ W, Calls Tryd.prog 49 #[.int .u64 (lowN L n)] W fun e w' => e = .returned (.int .u64 (2 ^ t)) ∧ W = w') ∧ bits .andNot .u64 (lowN L n : Int) (2 ^ t) = (x' : Int) ∧ x' < lowN L n ∧ ((0 : Int) ≤ 2 ^ t ∧ (2 : Int) ^ t < 18446744073709551616) ∧ x' = lowN L t := by
  obtain ⟨m1, m2, m3, m4⟩ := mod_hi L n hn h0
  have hlt64 : L % 2 ^ n < 18446744073709551616 := Nat.lt_of_le_of_lt (Nat.mod_le _ _) hL
  refine ⟨hiB (L % 2 ^ n), L % 2 ^ hiB (L % 2 ^ n), m1, Lib.hid (goBits_at b i L c n hn h0), Lib.hid fun W => highest_any (L % 2 ^ n) h0 hlt64 W,
    andNot_hi (L % 2 ^ n) (hiB (L % 2 ^ n)) (L % 2 ^ hiB (L % 2 ^ n)) hlt64 m4 (Nat.mod_lt _ (Nat.two_pow_pos _)), ?_, pow_u64 (by omega), rfl⟩
  show L % 2 ^ hiB (L % 2 ^ n) < L % 2 ^ n
  have := Nat.two_pow_pos (hiB (L % 2 ^ n))
  omega
set_option maxHeartbeats 2000000 in
theorem cless_loop (a b m : Nat → Int) (ha : Wf a) (hbw : Wf b) (T : List (Nat → Int)) (hT : goFields b 12 a = T) (hlen : T.length ≤ 1000) (hm : ∀ W, Tab W → 0 < W.heap.size → Calls Tryd.prog 31 #[.agg (cc a), .agg (cc b)] W fun e w' => e = .returned (.tuple #[.agg (cc m), .bool true]) ∧ Below W.heap.size W w')
    (w : World) (ht : Tab w) (hz : 0 < w.heap.size) (hs : csnd a = true) (hb : csnd b = true) :
    Calls Tryd.prog 33 #[.agg (cc a), .agg (cc b)] w (LessRet w T) := by
  have HE := Lib.hid (((Env.start ht hz).alloc (.cells (cc a) 30)).alloc (.cells (cc b) 30))
  have R0 := Lib.hid ((Blk.new w (cc a) 30).old (.cells (cc b) 30))
  have R1 := Lib.hid (Blk.new2 w (.cells (cc a) 30) (cc b) 30)
  have A0 := Lib.hid ha
  have B0 := Lib.hid hbw
  have HM := Lib.hid hm
  have HT := Lib.hid hT
  clear ht ha hbw hm hT
  go_enter Tryd.func33, Tryd.ntmps33
  go_wp2_with (refine wpList_load_row rfl 30 _ rfl w.heap.size rfl 30 (cc a) (0, 0) _ R0.out Tryd.underlying30 rfl (by kernel_rfl) ?_)
  refine (csound_any a A0.out.nonneg _ HE.out.tab HE.out.lt).mono ?_
  rintro e w1 ⟨rfl, hw1⟩
  have R01 := Lib.hid (R0.out.below hw1)
  have R11 := Lib.hid (R1.out.below hw1)
  have HE1 := Lib.hid (HE.out.below hw1)
  clear hw1 HE R0 R1
  go_wp2_with (refine loadRowG rfl 30 _ rfl (w.heap.size + 1) rfl 30 (cc b) (0, 0) R11.out Tryd.underlying30 rfl (by kernel_rfl) ?_)
  refine (csound_any b B0.out.nonneg _ HE1.out.tab HE1.out.lt).mono ?_
  rintro e w2 ⟨rfl, hw2⟩
  have R02 := Lib.hid (R01.out.below hw2)
  have R12 := Lib.hid (R11.out.below hw2)
  have HE2 := Lib.hid (HE1.out.below hw2)
  clear hw2 HE1 R01 R11
  go_wp2_with (first
    | (refine wpList_load_row rfl 30 _ rfl w.heap.size rfl 30 (cc a) (0, 0) _ R02.out Tryd.underlying30 rfl (by kernel_rfl) ?_)
    | (refine wpList_load_row rfl 30 _ rfl (w.heap.size + 1) rfl 30 (cc b) (0, 0) _ R12.out Tryd.underlying30 rfl (by kernel_rfl) ?_))
  refine (HM.out _ HE2.out.tab HE2.out.lt).mono ?_
  rintro e w3 ⟨rfl, hw3⟩
  have L0 := Lib.hid (show LessAt w b a (.slice none 0 0) [] (w3.alloc (.cells (cc m) 30)) from
    ⟨(R02.out.below hw3).old _, (R12.out.below hw3).old _, Owns.nil _ _, ((HE2.out.below hw3).alloc _).kept⟩)
  clear hw3 HE2 R02 R12 HM
  go_wp2_with (refine wpList_store_row rfl 30 _ _ rfl w3.heap.size (cc m) rfl rfl 30 _ (heap_alloc_new _ _) (by kernel_rfl) rfl (cc_one _) ?_; rw [World.setRow_alloc_new])
  clear hs hb
  go_loopw [30, 7] (fun i out wr => ∃ (r : Nat) (c : Nat → Int) (l : List (Nat → Int)), r ≤ 12 ∧ i = .int .i64 r ∧ l ++ goFields b (12 - r) c = T ∧ Wf c ∧ LessAt w b c out l wr) (fun i _ _ => (12 - intOf i).toNat)
  case atStart => exact ⟨0, a, [], by omega, rfl, HT.out, A0.out, L0.out⟩
  case round =>
    clear L0
    obtain ⟨r, c, l, hr, rfl, hl, hc, hL⟩ := hrel
    have HL := Lib.hid hl
    have HC := Lib.hid hc
    have HA := Lib.hid hL
    clear hl hc hL
    by_cases hlt : r < 12
    · have k1 := cellC HA.out.2.1 (show 12 + r < 24 by omega)
      have k2 := cellC HA.out.1 (show 12 + r < 24 by omega)
      have hdI : decide ((r : Int) < 12) = true := decide_eq_true (by omega)
      have hrI : (r : Int) < 12 := by omega
      have hw0 := andNot_wf (B0.out (12 + r)) (HC.out (12 + r))
      obtain ⟨L, hLe⟩ : ∃ L : Nat, bits .andNot .u64 (b (12 + r)) (c (12 + r)) = L := ⟨_, (Int.toNat_of_nonneg hw0.1).symm⟩
      have HLT := Lib.hid (show L < 18446744073709551616 by rw [hLe] at hw0; omega)
      have HLN := Lib.hid (show leftN b c r = L by unfold leftN; rw [hLe]; rfl)
      clear hw0
      go_wp2
      go_quiet (fail)
      clear k1 k2 hLe hdI
      have HA1 := Lib.hid (HA.out.drewN nq)
      clear HA
      generalize wr.drewN nq = W1 at *
      go_wp2_with fail
      go_loopw [9, 7] (fun left out wr => ∃ (n : Nat) (c : Nat → Int) (l : List (Nat → Int)), n ≤ 64 ∧ left = .int .u64 (lowN L n) ∧ l ++ ((goBits b r L n c).1 ++ goFields b (11 - r) (goBits b r L n c).2) = T ∧ Wf c ∧ LessAt w b c out l wr) (fun left _ _ => (intOf left).toNat)
      case atStart =>
        refine ⟨64, c, l, by omega, by rw [lowN, Nat.mod_eq_of_lt (by simpa using HLT.out)], ?_, HC.out, HA1.out⟩
        have e := HL.out
        rw [show 12 - r = (11 - r) + 1 by omega, goFields, show 11 - (11 - r) = r by omega, HLN.out] at e
        exact e
      case round =>
        clear HA1 HL HC HLN
        obtain ⟨n, c, l, hn, rfl, hl, hc, hL⟩ := hrel
        have HL := Lib.hid hl
        have HC := Lib.hid hc
        have HA := Lib.hid hL
        clear hl hc hL
        by_cases hx : lowN L n = 0
        · have hx' : ((lowN L n : Int) != 0) = false := by rw [hx]; rfl
          have HX := Lib.hid hx
          clear hx
          have HE := Lib.hid (goBits_end b r L c n HX.out)
          go_wp2
          go_roundw
          case rel =>
            refine ⟨r + 1, c, l, by omega, by go_num, ?_, HC.out, HA.out⟩
            have e := HL.out
            rw [HE.out, List.nil_append] at e
            rw [show 12 - (r + 1) = 11 - r by omega]
            exact e
          case measure => simp [intOf]; omega
        · have hx' : ((lowN L n : Int) != 0) = true := by simpa using hx
          obtain ⟨t, x', m1, HG, HH, han, hdec, hp, hx2⟩ := less_step b r L c n hn hx HLT.out
          clear hx
          generalize lowN L n = x at *
          generalize (2 : Int) ^ t = p at *
          have HX2 := Lib.hid hx2
          clear hx2
          have HP := Lib.hid hp
          clear hp
          have k1 := cellC HA.out.1 (show 12 + r < 24 by omega)
          have f1 := frozen_of_row _ w.heap.size (12 + r) _ _ HA.out.1
          go_wp2_with (go_at_call 49; refine (HH.out _).mono ?_; rintro e w' ⟨rfl, rfl⟩)
          clear k1 f1 han hx'
          have HA1 := Lib.hid (HA.out.set (show 12 + r < 24 by omega) (bits .or .u64 (c (12 + r)) p))
          clear HA HH
          refine regionTail 13 (by kernel_rfl) (by kernel_rfl) (fun W hW => ?_)
          have HA2 := Lib.hid (show LessAt w b (upd c (12 + r) (bits .or .u64 (c (12 + r)) p)) u7 l W by rw [hW.out]; exact HA1.out.drewN 1)
          clear hW HA1
          have k2 := (cellC HA2.out.1 (show r < 24 by omega)).trans (by rw [upd_ne c _ (show r ≠ 12 + r by omega)])
          have k3 := cellC HA2.out.2.1 (show r < 24 by omega)
          have f2 := frozen_of_row _ w.heap.size r _ _ HA2.out.1
          simp only [List.take_succ_cons, List.take_zero, List.drop_succ_cons, List.drop_zero]
          repeat still_step
          refine wpStill_nil ?_
          go_upto_region 16 with (fail)
          clear k2 k3 f2
          have HA3 := Lib.hid (show LessAt w b (stepC b c r p) u7 l (W.setCell ⟨w.heap.size, r, none⟩ (.int .u64 (bits .or .u64 (c r) (bits .and .u64 (b r) p)))) from HA2.out.set (show r < 24 by omega) _)
          clear HA2
          generalize W.setCell ⟨w.heap.size, r, none⟩ (.int .u64 (bits .or .u64 (c r) (bits .and .u64 (b r) p))) = W3 at *
          have P0 := Lib.hid (Blk.new W3 (cc (stepC b c r p)) 30)
          have k4 := cellC P0.out (show r < 24 by omega)
          have f4 := frozen_of_row _ W3.heap.size r _ _ P0.out
          have P1 := Lib.hid (show Blk W3.heap.size (cc (pieceC b c r p)) 30 _ from P0.out.cset (show r < 24 by omega) (bits .xor .u64 (stepC b c r p r) p))
          have HA5 := Lib.hid (HA3.out.below ((below1 W3 (.cells (cc (stepC b c r p)) 30)).setCell (p := ⟨W3.heap.size, r, none⟩) (Nat.le_refl _) (.int .u64 (bits .xor .u64 (stepC b c r p r) p))))
          go_upto_region 17 with (first
            | (refine wpList_load_row rfl 30 _ rfl w.heap.size rfl 30 (cc (stepC b c r p)) (0, 0) _ HA3.out.1 Tryd.underlying30 rfl (by kernel_rfl) ?_)
            | (refine wpList_store_row rfl 30 _ _ rfl W3.heap.size (cc (stepC b c r p)) rfl rfl 30 _ (heap_alloc_new _ _) (by kernel_rfl) rfl (cc_one _) ?_; rw [World.setRow_alloc_new]))
          clear HA3 P0
          generalize W3.alloc (.cells (cc (stepC b c r p)) 30) = W4 at *
          generalize W3.heap.size = g at *
          go_upto_region 18 with (fail)
          clear k4 f4
          generalize W4.setCell ⟨g, r, none⟩ (.int .u64 (bits .xor .u64 (stepC b c r p r) p)) = W5 at *
          have Q1 := Lib.hid (P1.out.old (.cells (cc (pieceC b c r p)) 30))
          have HA6 := Lib.hid (HA5.out.below (below1 W5 (.cells (cc (pieceC b c r p)) 30)))
          have hll : l.length ≤ 1000000 := by
            have e := congrArg List.length HL.out
            rw [List.length_append] at e
            omega
          go_wp2_with (first
            | (refine wpList_load_row rfl 30 _ rfl g rfl 30 (cc (pieceC b c r p)) (0, 0) _ P1.out Tryd.underlying30 rfl (by kernel_rfl) ?_)
            | (refine buildCube rfl _ rfl (pieceC b c r p) rfl ?_)
            | (refine appendCube rfl _ _ rfl (w.heap.size + 2) u7 l (pieceC b c r p) rfl HA6.out.2.2.1 W5.heap.size rfl (Blk.new W5 _ _) (by have := HA6.out.lt; omega) hll (fun v' w' ho hg => ?_)))
          have HA7 := Lib.hid (HA6.out.grown ho hg)
          clear HA6 HA5 P1 Q1 ho hg
          go_roundw
          case rel =>
            refine ⟨t, stepC b c r p, l ++ [pieceC b c r p], by omega, by rw [HX2.out], ?_, stepC_wf B0.out HC.out r HP.out, HA7.out⟩
            have e := HL.out
            rw [HG.out] at e
            rw [← e]
            simp
          case measure => simp [intOf]; omega
    · obtain rfl : r = 12 := by omega
      have hl := HL.out
      rw [show 12 - 12 = 0 from rfl, goFields, List.append_nil] at hl
      have HL2 := Lib.hid hl
      clear hl
      go_wp2
      go_ret
      exact ⟨_, rfl, by rw [← HL2.out]; exact HA.out.2.2.1.mono (by omega), HA.out.2.2.2⟩
theorem cless_any (a b : Nat → Int) (ha : Wf a) (hb : Wf b) (w : World) (ht : Tab w) (hz : 0 < w.heap.size) :
    Calls Tryd.prog 33 #[.agg (cc a), .agg (cc b)] w (LessRet w (lessL a b)) := by
  cases hs : csnd a
  · refine (cless_l a b ha.nonneg w ht hz hs).mono fun e w' ⟨he, hB⟩ => ⟨_, he, ?_, hB⟩
    unfold lessL
    rw [hs]
    exact Owns.nil _ _
  · cases hv : csnd b
    · refine (cless_r a b ha.nonneg hb.nonneg w ht hz hs hv).mono fun e w' ⟨he, hB⟩ => ⟨_, he, ?_, hB⟩
      unfold lessL
      rw [hs, hv]
      exact Owns.nil _ _
    · have hm := fun W t z => cmeet_any a b ha.nonneg hb.nonneg W t z
      cases hq : metB a b
      · rw [hq] at hm
        have : lessL a b = [a] := by simp [lessL, hs, hv, hq]
        rw [this]
        exact cless_apart a b _ ha.nonneg hb.nonneg hm w ht hz hs hv
      · rw [hq] at hm
        have : lessL a b = goFields b 12 a := by simp [lessL, hs, hv, hq]
        rw [this]
        exact cless_loop a b _ ha hb _ rfl (by have := goFields_len b 12 a; omega) hm w ht hz hs hv
end Go.Proofs.YtamjaohoicedfaaDoor
