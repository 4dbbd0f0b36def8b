/-
  The walk of the program's Meet.
-/
import Derived.Test.YtamjaohoicedfaaDoorCubeHas
import Derived.StillTailTactics
namespace Go.Proofs.YtamjaohoicedfaaDoor
open Go.RowKit

theorem Tab.setRow {W : World} (h : Tab W) {g : Nat} (hg : 0 ≠ g) (cs : Array Value) : Tab (W.setRow g cs) :=
  ⟨fun k hk => ⟨(cell_setRow_other W g cs _ hg).trans (h.1 k hk).1, (cell_setRow_other W g cs _ hg).trans (h.1 k hk).2⟩, by
    obtain ⟨t, fr, hf⟩ := h.2
    exact ⟨t, fr, (setRow_other _ _ _ _ hg).trans hf⟩⟩
theorem Env.setRow {w W : World} (h : Env w W) (hw : 0 < w.heap.size) {g : Nat} (hg : w.heap.size ≤ g) (cs : Array Value) : Env w (W.setRow g cs) :=
  ⟨h.1.setRow (by omega) cs, by rw [setRow_size]; exact h.2.1, below_setRow h.2.2 hg cs⟩
theorem belowDrewN (W : World) : ∀ n, Below W.heap.size W (W.drewN n)
  | 0 => Below.refl _ _
  | n + 1 => (belowDrewN W n).drew
theorem Tab.setCell {W : World} (h : Tab W) {g k : Nat} (hg : 0 ≠ g) (v : Value) : Tab (W.setCell ⟨g, k, none⟩ v) := by
  have hb : (W.setCell ⟨g, k, none⟩ v).heap[0]? = W.heap[0]? := heap_setCell_other W _ _ v hg
  refine ⟨fun j hj => ⟨(World.cell?_of_block (a := ⟨0, j * 2, none⟩) hb).trans (h.1 j hj).1, (World.cell?_of_block (a := ⟨0, j * 2 + 1, none⟩) hb).trans (h.1 j hj).2⟩, ?_⟩
  obtain ⟨t, fr, hf⟩ := h.2
  exact ⟨t, fr, hb.trans hf⟩
theorem cc_ext {x : Array Value} {a : Nat → Int} (hs : x.size = 24) (h : ∀ j, j < 24 → x[j]? = some (.int .u64 (a j))) : x = cc a := by
  apply Array.ext_getElem?
  intro i
  by_cases hi : i < 24
  · rw [h i hi, cc_at a i hi]
  · rw [Array.getElem?_eq_none (by omega), Array.getElem?_eq_none (by rw [cc_size]; omega)]
theorem cc_set (a : Nat → Int) (v : Int) (k : Nat) (_ : k < 24) : (cc a).setIfInBounds k (.int .u64 v) = cc (upd a k v) := by
  refine cc_ext (by rw [Array.size_setIfInBounds, cc_size]) fun j hj => ?_
  rw [Array.getElem?_setIfInBounds, cc_size]
  unfold upd
  by_cases e : k = j
  · subst e; simp [hj]
  · rw [if_neg e, cc_at a j hj, if_neg (fun h => e h.symm)]
section
variable {b : Nat} {a : Nat → Int} {t : TypeId} {W : World}
theorem Blk.cset (h : Blk b (cc a) t W) {k : Nat} (hk : k < 24) (v : Int) : Blk b (cc (upd a k v)) t (W.setCell ⟨b, k, none⟩ (.int .u64 v)) := by
  unfold Blk
  rw [heap_setCell_same W b k (cc a) t _ h, cc_set a v k hk]
theorem Blk.cother {cs : Array Value} (h : Blk b cs t W) {g k : Nat} (hg : b ≠ g) (v : Value) : Blk b cs t (W.setCell ⟨g, k, none⟩ v) := (heap_setCell_other W ⟨g, k, none⟩ b v hg).trans h
theorem Blk.rset {cs : Array Value} (h : Blk b cs t W) (ds : Array Value) : Blk b ds t (W.setRow b ds) := setRow_heap _ _ _ _ _ _ h
theorem Blk.rother {cs : Array Value} (h : Blk b cs t W) {g : Nat} (hg : b ≠ g) (ds : Array Value) : Blk b cs t (W.setRow g ds) := (setRow_other _ _ _ _ hg).trans h
end
/-- do two cubes fix a bit of a field otherwise? -/
def clashB (a b : Nat → Int) (j : Nat) : Bool := bits .and .u64 (bits .and .u64 (bits .xor .u64 (a j) (b j)) (a (12 + j))) (b (12 + j)) != 0
/-- have two cubes a header in common? -/
def metB (a b : Nat → Int) : Bool := csnd a && csnd b && (List.range 12).all fun j => !clashB a b j
def orC (a b : Nat → Int) : Nat → Int := fun j => bits .or .u64 (a j) (b j)
/-- what two cubes have in common -/
def metV (a b : Nat → Int) : Nat → Int := if metB a b then orC a b else zh
/-- the first fields of it -/
def orTo (a b : Nat → Int) (r : Nat) : Nat → Int := fun j => if j < r ∨ (12 ≤ j ∧ j < 12 + r) then orC a b j else 0
theorem orTo_zero (a b : Nat → Int) : orTo a b 0 = zh := by
  funext j; simp [orTo, zh]; omega
theorem orTo_succ (a b : Nat → Int) (r : Nat) (h : r < 12) : upd (upd (orTo a b r) (12 + r) (orC a b (12 + r))) r (orC a b r) = orTo a b (r + 1) := by
  funext j
  unfold upd orTo
  by_cases e1 : j = r
  · subst e1; simp
  · by_cases e2 : j = 12 + r
    · subst e2; simp
    · rw [if_neg e1, if_neg e2]
      by_cases h : j < r ∨ (12 ≤ j ∧ j < 12 + r)
      · rw [if_pos h, if_pos (by omega)]
      · rw [if_neg h, if_neg (by omega)]
theorem orTo_all (a b : Nat → Int) : cc (orTo a b 12) = cc (orC a b) := by
  refine cc_ext (cc_size _) fun j hj => ?_
  rw [cc_at _ j hj]
  unfold orTo
  rw [if_pos (by omega)]
theorem metB_l {a b : Nat → Int} (h : csnd a = false) : metB a b = false := by simp [metB, h]
theorem metB_r {a b : Nat → Int} (h : csnd b = false) : metB a b = false := by simp [metB, h]
theorem metB_clash {a b : Nat → Int} {j : Nat} (hj : j < 12) (e : clashB a b j = true) : metB a b = false := by
  have : ((List.range 12).all fun j => !clashB a b j) = false := by
    rw [List.all_eq_false]
    exact ⟨j, by simpa using hj, by simp [e]⟩
  simp [metB, this]
theorem metB_yes {a b : Nat → Int} (h1 : csnd a = true) (h2 : csnd b = true) (e : ∀ j, j < 12 → clashB a b j = false) : metB a b = true := by
  have : ((List.range 12).all fun j => !clashB a b j) = true := by
    rw [List.all_eq_true]
    intro j hj
    simp [e j (by simpa using hj)]
  simp [metB, this, h1, h2]
/-- a result in memory beside a plain one -/
theorem res_row {fn : Func} {p u : Tmp} {ty : TypeId} (h : fn.results = #[.cell p ty, .tmp u]) {tmps : Array Value} {P : Program} {w : World} {g : Nat} {t : TypeId} {cs : Array Value} {d : TypeDesc} {x : Value}
    (hp : tmps.getD p undef = .pointer (some ⟨g, 0, none⟩)) (hx : tmps.getD u undef = x) (hg : Blk g cs t w)
    (hu : P.underlying ty = some d) (hd : d.isRow = true) (hi : (P.info? ty).map (·.size) = some cs.size) :
    (results fn tmps).run P w = .ok (.tuple #[.agg cs, x]) w := by
  rw [results_cell_tmp h, hp, hx]
  simp [asAddr, run_loadVar_row w g t ty cs (0, 0) d hg hu (by cases d <;> first | rfl | (simp [TypeDesc.isRow] at hd)) hi]
theorem Blk.new3 (W : World) (o p : Obj) (cs : Array Value) (t : TypeId) : Blk (W.heap.size + 1 + 1) cs t (((W.alloc o).alloc p).alloc (.cells cs t)) := by
  have := Blk.new2 (W.alloc o) p cs t
  simpa using this

set_option maxHeartbeats 400000 in
theorem cmeet_l (a b : Nat → Int) (a0 : ∀ j, 0 ≤ a j) (w : World) (ht : Tab w) (hz : 0 < w.heap.size) (hs : csnd a = false) :
    Calls Tryd.prog 31 #[.agg (cc a), .agg (cc b)] w fun e w' => e = .returned (.tuple #[.agg (cc zh), .bool false]) ∧ Below w.heap.size w w' := by
  have HE := Lib.hid ((((Env.start ht hz).alloc (.cells (cc a) 30)).alloc (.cells (cc b) 30)).alloc (.cells #[Value.int IntKind.u64 0, Value.int IntKind.u64 0, Value.int IntKind.u64 0, Value.int IntKind.u64 0, Value.int IntKind.u64 0, Value.int IntKind.u64 0, Value.int IntKind.u64 0, Value.int IntKind.u64 0, Value.int IntKind.u64 0, Value.int IntKind.u64 0, Value.int IntKind.u64 0, Value.int IntKind.u64 0, Value.int IntKind.u64 0, Value.int IntKind.u64 0, Value.int IntKind.u64 0, Value.int IntKind.u64 0, Value.int IntKind.u64 0, Value.int IntKind.u64 0, Value.int IntKind.u64 0, Value.int IntKind.u64 0, Value.int IntKind.u64 0, Value.int IntKind.u64 0, Value.int IntKind.u64 0, Value.int IntKind.u64 0] 30))
  have R0 := Lib.hid (((Blk.new w (cc a) 30).old (.cells (cc b) 30)).old (.cells #[Value.int IntKind.u64 0, Value.int IntKind.u64 0, Value.int IntKind.u64 0, Value.int IntKind.u64 0, Value.int IntKind.u64 0, Value.int IntKind.u64 0, Value.int IntKind.u64 0, Value.int IntKind.u64 0, Value.int IntKind.u64 0, Value.int IntKind.u64 0, Value.int IntKind.u64 0, Value.int IntKind.u64 0, Value.int IntKind.u64 0, Value.int IntKind.u64 0, Value.int IntKind.u64 0, Value.int IntKind.u64 0, Value.int IntKind.u64 0, Value.int IntKind.u64 0, Value.int IntKind.u64 0, Value.int IntKind.u64 0, Value.int IntKind.u64 0, Value.int IntKind.u64 0, Value.int IntKind.u64 0, Value.int IntKind.u64 0] 30))
  have R2 := Lib.hid (Blk.new3 w (.cells (cc a) 30) (.cells (cc b) 30) #[Value.int IntKind.u64 0, Value.int IntKind.u64 0, Value.int IntKind.u64 0, Value.int IntKind.u64 0, Value.int IntKind.u64 0, Value.int IntKind.u64 0, Value.int IntKind.u64 0, Value.int IntKind.u64 0, Value.int IntKind.u64 0, Value.int IntKind.u64 0, Value.int IntKind.u64 0, Value.int IntKind.u64 0, Value.int IntKind.u64 0, Value.int IntKind.u64 0, Value.int IntKind.u64 0, Value.int IntKind.u64 0, Value.int IntKind.u64 0, Value.int IntKind.u64 0, Value.int IntKind.u64 0, Value.int IntKind.u64 0, Value.int IntKind.u64 0, Value.int IntKind.u64 0, Value.int IntKind.u64 0, Value.int IntKind.u64 0] 30)
  have A0 := Lib.hid a0
  clear ht a0
  go_enter Tryd.func31, Tryd.ntmps31
  go_wp2_with (refine wpList_load_row rfl 30 _ rfl w.heap.size rfl 30 (cc a) (0, 0) _ R0.out Tryd.underlying30 rfl (by kernel_rfl) ?_)
  refine (csound_any a A0.out _ HE.out.tab HE.out.lt).mono ?_
  rintro e w1 ⟨rfl, hw1⟩
  have R2' := Lib.hid (R2.out.below hw1)
  have HB := Lib.hid (HE.out.below hw1).kept
  clear hw1 HE R0 R2
  go_wp2_with (refine wpList_store_row rfl 30 _ _ rfl (w.heap.size + 1 + 1) #[Value.int IntKind.u64 0, Value.int IntKind.u64 0, Value.int IntKind.u64 0, Value.int IntKind.u64 0, Value.int IntKind.u64 0, Value.int IntKind.u64 0, Value.int IntKind.u64 0, Value.int IntKind.u64 0, Value.int IntKind.u64 0, Value.int IntKind.u64 0, Value.int IntKind.u64 0, Value.int IntKind.u64 0, Value.int IntKind.u64 0, Value.int IntKind.u64 0, Value.int IntKind.u64 0, Value.int IntKind.u64 0, Value.int IntKind.u64 0, Value.int IntKind.u64 0, Value.int IntKind.u64 0, Value.int IntKind.u64 0, Value.int IntKind.u64 0, Value.int IntKind.u64 0, Value.int IntKind.u64 0, Value.int IntKind.u64 0] rfl rfl 30 _ R2'.out (by kernel_rfl) rfl (by kernel_rfl) ?_)
  refine bodyPost_ret (v := .tuple #[.agg (cc zh), .bool false]) ?_ rfl ⟨rfl, below_setRow HB.out (by omega) _⟩
  exact res_row Tryd.results31 (cs := cc zh) rfl rfl (R2'.out.rset _) Tryd.underlying30 rfl (by kernel_rfl)
set_option maxHeartbeats 400000 in
theorem cmeet_r (a b : Nat → Int) (a0 : ∀ j, 0 ≤ a j) (b0 : ∀ j, 0 ≤ b j) (w : World) (ht : Tab w) (hz : 0 < w.heap.size) (hs : csnd a = true) (hb : csnd b = false) :
    Calls Tryd.prog 31 #[.agg (cc a), .agg (cc b)] w fun e w' => e = .returned (.tuple #[.agg (cc zh), .bool false]) ∧ Below w.heap.size w w' := by
  have HE := Lib.hid ((((Env.start ht hz).alloc (.cells (cc a) 30)).alloc (.cells (cc b) 30)).alloc (.cells #[Value.int IntKind.u64 0, Value.int IntKind.u64 0, Value.int IntKind.u64 0, Value.int IntKind.u64 0, Value.int IntKind.u64 0, Value.int IntKind.u64 0, Value.int IntKind.u64 0, Value.int IntKind.u64 0, Value.int IntKind.u64 0, Value.int IntKind.u64 0, Value.int IntKind.u64 0, Value.int IntKind.u64 0, Value.int IntKind.u64 0, Value.int IntKind.u64 0, Value.int IntKind.u64 0, Value.int IntKind.u64 0, Value.int IntKind.u64 0, Value.int IntKind.u64 0, Value.int IntKind.u64 0, Value.int IntKind.u64 0, Value.int IntKind.u64 0, Value.int IntKind.u64 0, Value.int IntKind.u64 0, Value.int IntKind.u64 0] 30))
  have R0 := Lib.hid (((Blk.new w (cc a) 30).old (.cells (cc b) 30)).old (.cells #[Value.int IntKind.u64 0, Value.int IntKind.u64 0, Value.int IntKind.u64 0, Value.int IntKind.u64 0, Value.int IntKind.u64 0, Value.int IntKind.u64 0, Value.int IntKind.u64 0, Value.int IntKind.u64 0, Value.int IntKind.u64 0, Value.int IntKind.u64 0, Value.int IntKind.u64 0, Value.int IntKind.u64 0, Value.int IntKind.u64 0, Value.int IntKind.u64 0, Value.int IntKind.u64 0, Value.int IntKind.u64 0, Value.int IntKind.u64 0, Value.int IntKind.u64 0, Value.int IntKind.u64 0, Value.int IntKind.u64 0, Value.int IntKind.u64 0, Value.int IntKind.u64 0, Value.int IntKind.u64 0, Value.int IntKind.u64 0] 30))
  have R1 := Lib.hid ((Blk.new2 w (.cells (cc a) 30) (cc b) 30).old (.cells #[Value.int IntKind.u64 0, Value.int IntKind.u64 0, Value.int IntKind.u64 0, Value.int IntKind.u64 0, Value.int IntKind.u64 0, Value.int IntKind.u64 0, Value.int IntKind.u64 0, Value.int IntKind.u64 0, Value.int IntKind.u64 0, Value.int IntKind.u64 0, Value.int IntKind.u64 0, Value.int IntKind.u64 0, Value.int IntKind.u64 0, Value.int IntKind.u64 0, Value.int IntKind.u64 0, Value.int IntKind.u64 0, Value.int IntKind.u64 0, Value.int IntKind.u64 0, Value.int IntKind.u64 0, Value.int IntKind.u64 0, Value.int IntKind.u64 0, Value.int IntKind.u64 0, Value.int IntKind.u64 0, Value.int IntKind.u64 0] 30))
  have R2 := Lib.hid (Blk.new3 w (.cells (cc a) 30) (.cells (cc b) 30) #[Value.int IntKind.u64 0, Value.int IntKind.u64 0, Value.int IntKind.u64 0, Value.int IntKind.u64 0, Value.int IntKind.u64 0, Value.int IntKind.u64 0, Value.int IntKind.u64 0, Value.int IntKind.u64 0, Value.int IntKind.u64 0, Value.int IntKind.u64 0, Value.int IntKind.u64 0, Value.int IntKind.u64 0, Value.int IntKind.u64 0, Value.int IntKind.u64 0, Value.int IntKind.u64 0, Value.int IntKind.u64 0, Value.int IntKind.u64 0, Value.int IntKind.u64 0, Value.int IntKind.u64 0, Value.int IntKind.u64 0, Value.int IntKind.u64 0, Value.int IntKind.u64 0, Value.int IntKind.u64 0, Value.int IntKind.u64 0] 30)
  have A0 := Lib.hid a0
  have B0 := Lib.hid b0
  clear ht a0 b0
  go_enter Tryd.func31, Tryd.ntmps31
  go_wp2_with (refine wpList_load_row rfl 30 _ rfl w.heap.size rfl 30 (cc a) (0, 0) _ R0.out Tryd.underlying30 rfl (by kernel_rfl) ?_)
  refine (csound_any a A0.out _ HE.out.tab HE.out.lt).mono ?_
  rintro e w1 ⟨rfl, hw1⟩
  have R01 := Lib.hid (R0.out.below hw1)
  have R11 := Lib.hid (R1.out.below hw1)
  have R21 := Lib.hid (R2.out.below hw1)
  have HE1 := Lib.hid (HE.out.below hw1)
  clear hw1 HE R0 R1 R2
  go_wp2_with (refine loadRowG rfl 30 _ rfl (w.heap.size + 1) rfl 30 (cc b) (0, 0) R11.out Tryd.underlying30 rfl (by kernel_rfl) ?_)
  refine (csound_any b B0.out _ HE1.out.tab HE1.out.lt).mono ?_
  rintro e w2 ⟨rfl, hw2⟩
  have R02 := Lib.hid (R01.out.below hw2)
  have R12 := Lib.hid (R11.out.below hw2)
  have R22 := Lib.hid (R21.out.below hw2)
  have HB := Lib.hid (HE1.out.below hw2).kept
  clear hw2 HE1 R01 R11 R21
  go_wp2_with (refine wpList_store_row rfl 30 _ _ rfl (w.heap.size + 1 + 1) #[Value.int IntKind.u64 0, Value.int IntKind.u64 0, Value.int IntKind.u64 0, Value.int IntKind.u64 0, Value.int IntKind.u64 0, Value.int IntKind.u64 0, Value.int IntKind.u64 0, Value.int IntKind.u64 0, Value.int IntKind.u64 0, Value.int IntKind.u64 0, Value.int IntKind.u64 0, Value.int IntKind.u64 0, Value.int IntKind.u64 0, Value.int IntKind.u64 0, Value.int IntKind.u64 0, Value.int IntKind.u64 0, Value.int IntKind.u64 0, Value.int IntKind.u64 0, Value.int IntKind.u64 0, Value.int IntKind.u64 0, Value.int IntKind.u64 0, Value.int IntKind.u64 0, Value.int IntKind.u64 0, Value.int IntKind.u64 0] rfl rfl 30 _ R22.out (by kernel_rfl) rfl (by kernel_rfl) ?_)
  refine bodyPost_ret (v := .tuple #[.agg (cc zh), .bool false]) ?_ rfl ⟨rfl, below_setRow HB.out (by omega) _⟩
  exact res_row Tryd.results31 (cs := cc zh) rfl rfl (R22.out.rset _) Tryd.underlying30 rfl (by kernel_rfl)
/-- the four rows of Meet, while it goes over the fields -/
def MeetAt (w : World) (B : Nat) (a b c : Nat → Int) (W : World) : Prop :=
  Blk w.heap.size (cc a) 30 W ∧ Blk (w.heap.size + 1) (cc b) 30 W ∧ Blk (w.heap.size + 1 + 1) #[Value.int IntKind.u64 0, Value.int IntKind.u64 0, Value.int IntKind.u64 0, Value.int IntKind.u64 0, Value.int IntKind.u64 0, Value.int IntKind.u64 0, Value.int IntKind.u64 0, Value.int IntKind.u64 0, Value.int IntKind.u64 0, Value.int IntKind.u64 0, Value.int IntKind.u64 0, Value.int IntKind.u64 0, Value.int IntKind.u64 0, Value.int IntKind.u64 0, Value.int IntKind.u64 0, Value.int IntKind.u64 0, Value.int IntKind.u64 0, Value.int IntKind.u64 0, Value.int IntKind.u64 0, Value.int IntKind.u64 0, Value.int IntKind.u64 0, Value.int IntKind.u64 0, Value.int IntKind.u64 0, Value.int IntKind.u64 0] 30 W ∧ Blk B (cc c) 30 W ∧ Below w.heap.size w W
theorem MeetAt.drewN {w : World} {B : Nat} {a b c : Nat → Int} {W : World} (h : MeetAt w B a b c W) : ∀ n, MeetAt w B a b c (W.drewN n)
  | 0 => h
  | n + 1 => ⟨(h.drewN n).1, (h.drewN n).2.1, (h.drewN n).2.2.1, (h.drewN n).2.2.2.1, (h.drewN n).2.2.2.2.drew⟩
theorem MeetAt.set {w : World} {B : Nat} {a b c : Nat → Int} {W : World} (h : MeetAt w B a b c W) (hB : w.heap.size + 1 + 1 < B) {k : Nat} (hk : k < 24) (v : Int) : MeetAt w B a b (upd c k v) (W.setCell ⟨B, k, none⟩ (.int .u64 v)) :=
  ⟨h.1.cother (by omega) _, h.2.1.cother (by omega) _, h.2.2.1.cother (by omega) _, h.2.2.2.1.cset hk v, h.2.2.2.2.setCell (by show w.heap.size ≤ B; omega) _⟩
set_option maxHeartbeats 1000000 in
theorem cmeet_loop (a b : Nat → Int) (a0 : ∀ j, 0 ≤ a j) (b0 : ∀ j, 0 ≤ b j) (w : World) (ht : Tab w) (hz : 0 < w.heap.size) (hs : csnd a = true) (hb : csnd b = true) :
    Calls Tryd.prog 31 #[.agg (cc a), .agg (cc b)] w fun e w' => e = .returned (.tuple #[.agg (cc (metV a b)), .bool (metB a b)]) ∧ Below w.heap.size w w' := by
  have HE := Lib.hid ((((Env.start ht hz).alloc (.cells (cc a) 30)).alloc (.cells (cc b) 30)).alloc (.cells #[Value.int IntKind.u64 0, Value.int IntKind.u64 0, Value.int IntKind.u64 0, Value.int IntKind.u64 0, Value.int IntKind.u64 0, Value.int IntKind.u64 0, Value.int IntKind.u64 0, Value.int IntKind.u64 0, Value.int IntKind.u64 0, Value.int IntKind.u64 0, Value.int IntKind.u64 0, Value.int IntKind.u64 0, Value.int IntKind.u64 0, Value.int IntKind.u64 0, Value.int IntKind.u64 0, Value.int IntKind.u64 0, Value.int IntKind.u64 0, Value.int IntKind.u64 0, Value.int IntKind.u64 0, Value.int IntKind.u64 0, Value.int IntKind.u64 0, Value.int IntKind.u64 0, Value.int IntKind.u64 0, Value.int IntKind.u64 0] 30))
  have R0 := Lib.hid (((Blk.new w (cc a) 30).old (.cells (cc b) 30)).old (.cells #[Value.int IntKind.u64 0, Value.int IntKind.u64 0, Value.int IntKind.u64 0, Value.int IntKind.u64 0, Value.int IntKind.u64 0, Value.int IntKind.u64 0, Value.int IntKind.u64 0, Value.int IntKind.u64 0, Value.int IntKind.u64 0, Value.int IntKind.u64 0, Value.int IntKind.u64 0, Value.int IntKind.u64 0, Value.int IntKind.u64 0, Value.int IntKind.u64 0, Value.int IntKind.u64 0, Value.int IntKind.u64 0, Value.int IntKind.u64 0, Value.int IntKind.u64 0, Value.int IntKind.u64 0, Value.int IntKind.u64 0, Value.int IntKind.u64 0, Value.int IntKind.u64 0, Value.int IntKind.u64 0, Value.int IntKind.u64 0] 30))
  have R1 := Lib.hid ((Blk.new2 w (.cells (cc a) 30) (cc b) 30).old (.cells #[Value.int IntKind.u64 0, Value.int IntKind.u64 0, Value.int IntKind.u64 0, Value.int IntKind.u64 0, Value.int IntKind.u64 0, Value.int IntKind.u64 0, Value.int IntKind.u64 0, Value.int IntKind.u64 0, Value.int IntKind.u64 0, Value.int IntKind.u64 0, Value.int IntKind.u64 0, Value.int IntKind.u64 0, Value.int IntKind.u64 0, Value.int IntKind.u64 0, Value.int IntKind.u64 0, Value.int IntKind.u64 0, Value.int IntKind.u64 0, Value.int IntKind.u64 0, Value.int IntKind.u64 0, Value.int IntKind.u64 0, Value.int IntKind.u64 0, Value.int IntKind.u64 0, Value.int IntKind.u64 0, Value.int IntKind.u64 0] 30))
  have R2 := Lib.hid (Blk.new3 w (.cells (cc a) 30) (.cells (cc b) 30) #[Value.int IntKind.u64 0, Value.int IntKind.u64 0, Value.int IntKind.u64 0, Value.int IntKind.u64 0, Value.int IntKind.u64 0, Value.int IntKind.u64 0, Value.int IntKind.u64 0, Value.int IntKind.u64 0, Value.int IntKind.u64 0, Value.int IntKind.u64 0, Value.int IntKind.u64 0, Value.int IntKind.u64 0, Value.int IntKind.u64 0, Value.int IntKind.u64 0, Value.int IntKind.u64 0, Value.int IntKind.u64 0, Value.int IntKind.u64 0, Value.int IntKind.u64 0, Value.int IntKind.u64 0, Value.int IntKind.u64 0, Value.int IntKind.u64 0, Value.int IntKind.u64 0, Value.int IntKind.u64 0, Value.int IntKind.u64 0] 30)
  have A0 := Lib.hid a0
  have B0 := Lib.hid b0
  have HY := Lib.hid (metB_yes hs hb)
  clear ht a0 b0
  go_enter Tryd.func31, Tryd.ntmps31
  go_wp2_with (refine wpList_load_row rfl 30 _ rfl w.heap.size rfl 30 (cc a) (0, 0) _ R0.out Tryd.underlying30 rfl (by kernel_rfl) ?_)
  refine (csound_any a A0.out _ HE.out.tab HE.out.lt).mono ?_
  rintro e w1 ⟨rfl, hw1⟩
  have R01 := Lib.hid (R0.out.below hw1)
  have R11 := Lib.hid (R1.out.below hw1)
  have R21 := Lib.hid (R2.out.below hw1)
  have HE1 := Lib.hid (HE.out.below hw1)
  clear hw1 HE R0 R1 R2
  go_wp2_with (refine loadRowG rfl 30 _ rfl (w.heap.size + 1) rfl 30 (cc b) (0, 0) R11.out Tryd.underlying30 rfl (by kernel_rfl) ?_)
  refine (csound_any b B0.out _ HE1.out.tab HE1.out.lt).mono ?_
  rintro e w2 ⟨rfl, hw2⟩
  have R02 := Lib.hid (R01.out.below hw2)
  have R12 := Lib.hid (R11.out.below hw2)
  have R22 := Lib.hid (R21.out.below hw2)
  have HB := Lib.hid (HE1.out.below hw2).kept
  clear hw2 HE1 R01 R11 R21
  have hB : w.heap.size + 1 + 1 < w2.heap.size := R22.out.lt
  have R32 := Lib.hid (Blk.new w2 #[Value.int IntKind.u64 0, Value.int IntKind.u64 0, Value.int IntKind.u64 0, Value.int IntKind.u64 0, Value.int IntKind.u64 0, Value.int IntKind.u64 0, Value.int IntKind.u64 0, Value.int IntKind.u64 0, Value.int IntKind.u64 0, Value.int IntKind.u64 0, Value.int IntKind.u64 0, Value.int IntKind.u64 0, Value.int IntKind.u64 0, Value.int IntKind.u64 0, Value.int IntKind.u64 0, Value.int IntKind.u64 0, Value.int IntKind.u64 0, Value.int IntKind.u64 0, Value.int IntKind.u64 0, Value.int IntKind.u64 0, Value.int IntKind.u64 0, Value.int IntKind.u64 0, Value.int IntKind.u64 0, Value.int IntKind.u64 0] 30)
  have M := Lib.hid (show MeetAt w w2.heap.size a b zh (w2.alloc (.cells #[Value.int IntKind.u64 0, Value.int IntKind.u64 0, Value.int IntKind.u64 0, Value.int IntKind.u64 0, Value.int IntKind.u64 0, Value.int IntKind.u64 0, Value.int IntKind.u64 0, Value.int IntKind.u64 0, Value.int IntKind.u64 0, Value.int IntKind.u64 0, Value.int IntKind.u64 0, Value.int IntKind.u64 0, Value.int IntKind.u64 0, Value.int IntKind.u64 0, Value.int IntKind.u64 0, Value.int IntKind.u64 0, Value.int IntKind.u64 0, Value.int IntKind.u64 0, Value.int IntKind.u64 0, Value.int IntKind.u64 0, Value.int IntKind.u64 0, Value.int IntKind.u64 0, Value.int IntKind.u64 0, Value.int IntKind.u64 0] 30)) from ⟨R02.out.old _, R12.out.old _, R22.out.old _, R32.out, HB.out.alloc (by omega) _⟩)
  clear R02 R12 R22 R32 HB
  go_wp2
  clear hs hb
  go_loopw [17] (fun i wr => ∃ r : Nat, r ≤ 12 ∧ (∀ j, j < r → clashB a b j = false) ∧ i = .int .i64 r ∧ MeetAt w w2.heap.size a b (orTo a b r) wr) (fun i _ => (12 - intOf i).toNat)
  case atStart => exact ⟨0, by omega, fun j h => absurd h (by omega), rfl, by rw [orTo_zero]; exact M.out⟩
  case round =>
    clear M
    obtain ⟨r, hr, hq, rfl, hm⟩ := hrel
    have HQ := Lib.hid hq
    have HM := Lib.hid hm
    clear hq hm
    by_cases hlt : r < 12
    · have k1 := cellC HM.out.1 (show 12 + r < 24 by omega)
      have k2 := cellC HM.out.1 (show r < 24 by omega)
      have k3 := cellC HM.out.2.1 (show 12 + r < 24 by omega)
      have k4 := cellC HM.out.2.1 (show r < 24 by omega)
      cases ho : clashB a b r
      · have ho' : (bits .and .u64 (bits .and .u64 (bits .xor .u64 (a r) (b r)) (a (12 + r))) (b (12 + r)) != 0) = false := ho
        have HO := Lib.hid ho
        clear ho
        go_wp2
        go_quiet (fail)
        go_wp2
        clear k1 k2 k3 k4 ho'
        refine regionTail 12 (by kernel_rfl) (by kernel_rfl) (fun W hW => ?_)
        have HM1 := Lib.hid (show MeetAt w w2.heap.size a b (orTo a b r) W by rw [hW.out]; exact (HM.out.drewN _).drewN 1)
        clear hW HM
        have k1 := cellC HM1.out.1 (show 12 + r < 24 by omega)
        have k3 := cellC HM1.out.2.1 (show 12 + r < 24 by omega)
        have k5 := cellC HM1.out.2.2.2.1 (show 12 + r < 24 by omega)
        have f5 := frozen_of_row _ w2.heap.size (12 + r) _ _ HM1.out.2.2.2.1
        simp only [List.take_succ_cons, List.take_zero, List.drop_succ_cons, List.drop_zero]
        repeat still_step
        refine wpStill_nil ?_
        go_wp2
        clear k1 k3 k5 f5
        have HM2 := Lib.hid (HM1.out.set hB (show 12 + r < 24 by omega) (orC a b (12 + r)))
        clear HM1
        refine regionTail 12 (by kernel_rfl) (by kernel_rfl) (fun V hV => ?_)
        have HM3 := Lib.hid (show MeetAt w w2.heap.size a b (upd (orTo a b r) (12 + r) (orC a b (12 + r))) V by rw [hV.out]; exact HM2.out.drewN 1)
        clear hV HM2
        have k1 := cellC HM3.out.1 (show r < 24 by omega)
        have k3 := cellC HM3.out.2.1 (show r < 24 by omega)
        have k5 := cellC HM3.out.2.2.2.1 (show r < 24 by omega)
        have f5 := frozen_of_row _ w2.heap.size r _ _ HM3.out.2.2.2.1
        simp only [List.take_succ_cons, List.take_zero, List.drop_succ_cons, List.drop_zero]
        repeat still_step
        refine wpStill_nil ?_
        go_wp2
        clear k1 k3 k5 f5
        have HM4 := Lib.hid (HM3.out.set hB (show r < 24 by omega) (orC a b r))
        rw [orTo_succ a b r hlt] at HM4
        clear HM3
        go_roundw
        case rel =>
          refine ⟨r + 1, by omega, fun j hj => ?_, by go_num, HM4.out⟩
          by_cases e : j = r
          · rw [e]; exact HO.out
          · exact HQ.out j (by omega)
        case measure => simp [intOf]; omega
      · have ho' : (bits .and .u64 (bits .and .u64 (bits .xor .u64 (a r) (b r)) (a (12 + r))) (b (12 + r)) != 0) = true := ho
        have HO := Lib.hid (metB_clash hlt ho)
        clear ho
        go_wp2
        go_quiet (fail)
        go_wp2_with (refine wpList_store_row rfl 30 _ _ rfl (w.heap.size + 1 + 1) #[Value.int IntKind.u64 0, Value.int IntKind.u64 0, Value.int IntKind.u64 0, Value.int IntKind.u64 0, Value.int IntKind.u64 0, Value.int IntKind.u64 0, Value.int IntKind.u64 0, Value.int IntKind.u64 0, Value.int IntKind.u64 0, Value.int IntKind.u64 0, Value.int IntKind.u64 0, Value.int IntKind.u64 0, Value.int IntKind.u64 0, Value.int IntKind.u64 0, Value.int IntKind.u64 0, Value.int IntKind.u64 0, Value.int IntKind.u64 0, Value.int IntKind.u64 0, Value.int IntKind.u64 0, Value.int IntKind.u64 0, Value.int IntKind.u64 0, Value.int IntKind.u64 0, Value.int IntKind.u64 0, Value.int IntKind.u64 0] rfl rfl 30 _ (HM.out.drewN _).2.2.1 (by kernel_rfl) rfl (by kernel_rfl) ?_)
        refine bodyPost_ret (v := .tuple #[.agg (cc zh), .bool false]) ?_ rfl ⟨by rw [metV, HO.out]; rfl, below_setRow (HM.out.drewN _).2.2.2.2 (by omega) _⟩
        exact res_row Tryd.results31 (cs := cc zh) rfl rfl ((HM.out.drewN _).2.2.1.rset _) Tryd.underlying30 rfl (by kernel_rfl)
    · obtain rfl : r = 12 := by omega
      have HO := Lib.hid (HY.out fun j hj => HQ.out j hj)
      go_wp2_with (first
        | (refine wpList_load_row rfl 30 _ rfl w2.heap.size rfl 30 (cc (orTo a b 12)) (0, 0) _ HM.out.2.2.2.1 Tryd.underlying30 rfl (by kernel_rfl) ?_)
        | (refine wpList_store_row rfl 30 _ _ rfl (w.heap.size + 1 + 1) (cc (orTo a b 12)) rfl rfl 30 _ HM.out.2.2.1 (by kernel_rfl) rfl (cc_one _) ?_))
      refine bodyPost_ret (v := .tuple #[.agg (cc (orTo a b 12)), .bool true]) ?_ rfl ⟨by rw [metV, HO.out, orTo_all]; rfl, below_setRow HM.out.2.2.2.2 (by omega) _⟩
      exact res_row Tryd.results31 rfl rfl (HM.out.2.2.1.rset _) Tryd.underlying30 rfl (by kernel_rfl)
theorem cmeet_any (a b : Nat → Int) (a0 : ∀ j, 0 ≤ a j) (b0 : ∀ j, 0 ≤ b j) (w : World) (ht : Tab w) (hz : 0 < w.heap.size) :
    Calls Tryd.prog 31 #[.agg (cc a), .agg (cc b)] w fun e w' => e = .returned (.tuple #[.agg (cc (metV a b)), .bool (metB a b)]) ∧ Below w.heap.size w w' := by
  cases hs : csnd a
  · rw [metV, metB_l hs]; exact cmeet_l a b a0 w ht hz hs
  · cases hv : csnd b
    · rw [metV, metB_r hv]; exact cmeet_r a b a0 b0 w ht hz hs hv
    · exact cmeet_loop a b a0 b0 w ht hz hs hv
end Go.Proofs.YtamjaohoicedfaaDoor
