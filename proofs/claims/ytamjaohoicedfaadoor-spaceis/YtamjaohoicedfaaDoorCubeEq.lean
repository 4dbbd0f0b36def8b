/-
  '==' on cubes; the walks of the program's All, Within, Compare.
-/
import Derived.Test.YtamjaohoicedfaaDoorCubeMeet
import Derived.Test.YtamjaohoicedfaaDoorHeadCmp
import Derived.Laws.StructEq
namespace Go.Proofs.YtamjaohoicedfaaDoor
open Go.RowKit

theorem ret_int {k : IntKind} {a b : Int} (h : a = b) : Ending.returned (.int k a) = .returned (.int k b) := by rw [h]
theorem partVal (a : Nat → Int) (w : World) : (part 25 (cc a) 0).run Tryd.prog w = .ok (.agg (hl a).toArray) w := by kernel_rfl
theorem partCare (a : Nat → Int) (w : World) : (part 25 (cc a) 12).run Tryd.prog w = .ok (.agg (hl (care a)).toArray) w := by kernel_rfl
/-- are two cubes the same? -/
def cEq (a b : Nat → Int) : Bool := hEq a b && hEq (care a) (care b)
theorem cubeFields : ∃ f g : Field, (Tryd.prog.fieldsOf 30).toList = [f, g] ∧ f.name ≠ "_" ∧ f.type = 25 ∧ f.offset = 0 ∧ g.name ≠ "_" ∧ g.type = 25 ∧ g.offset = 12 :=
  ⟨_, _, rfl, by decide, rfl, rfl, by decide, rfl, rfl⟩
theorem eqlHl (d : Nat) (a b : Nat → Int) (w : World) : (Op.equalIn (d + 2) 25 (.agg (hl a).toArray) (.agg (hl b).toArray)).run Tryd.prog w = .ok (hEq a b) w := by
  obtain ⟨i, hi⟩ := infoU64
  show (Op.equalIn (d + 2) 25 (.agg (hc a)) (.agg (hc b))).run Tryd.prog w = .ok (hEq a b) w
  rw [run_equalIn_array w (d + 1) (hc a) (hc b) Tryd.underlying25 hi, cU64]
  exact eqItems_head a b d w (List.range 12) fun i hi => by simpa using hi
theorem eql_cube (a b : Nat → Int) (w : World) : (Op.equalIn 10000 30 (.agg (cc a)) (.agg (cc b))).run Tryd.prog w = .ok (cEq a b) w := by
  obtain ⟨f, g, hf, f1, f2, f3, g1, g2, g3⟩ := cubeFields
  rw [run_equalIn_struct w 9999 30 (cc a) (cc b) (by kernel_rfl) (by kernel_rfl), hf]
  simp only [Op.eqFields, f1, f2, f3, g1, g2, g3, ne_eq, not_false_eq_true, if_true, Sem.run_bind, partVal, Result.andThen_ok, eqlHl 9997]
  unfold cEq
  cases h : hEq a b
  · simp
  · cases h' : hEq (care a) (care b) <;> simp [h', partCare, eqlHl 9997]
theorem guardCube : Tryd.prog.eqGuardType Tryd.prog.depth 30 = false := by kernel_rfl
theorem hEq_iff (a b : Nat → Int) : hEq a b = true ↔ ∀ j, j < 12 → a j = b j := by simp [hEq]
theorem cEq_iff (a b : Nat → Int) : cEq a b = true ↔ ∀ j, j < 24 → a j = b j := by
  unfold cEq
  rw [Bool.and_eq_true, hEq_iff, hEq_iff]
  constructor
  · rintro ⟨h1, h2⟩ j hj
    by_cases h : j < 12
    · exact h1 j h
    · have := h2 (j - 12) (by omega)
      unfold care at this
      rwa [show 12 + (j - 12) = j by omega] at this
  · intro h
    exact ⟨fun j hj => h j (by omega), fun j hj => h (12 + j) (by omega)⟩
theorem cEq_cc {a b : Nat → Int} (h : cEq a b = true) : cc a = cc b := cc_ext (cc_size _) fun j hj => by rw [cc_at _ j hj, (cEq_iff a b).1 h j hj]

/-- a result in memory, alone -/
theorem res_one {fn : Func} {p : Tmp} {ty : TypeId} (h : fn.results = #[.cell p ty]) {tmps : Array Value} {P : Program} {w : World} {g : Nat} {t : TypeId} {cs : Array Value} {d : TypeDesc}
    (hp : tmps.getD p undef = .pointer (some ⟨g, 0, none⟩)) (hg : Blk g cs t w)
    (hu : P.underlying ty = some d) (hd : d.isRow = true) (hi : (P.info? ty).map (·.size) = some cs.size) :
    (results fn tmps).run P w = .ok (.agg cs) w := by
  have e := run_loadVar_row (P := P) w g t ty cs (0, 0) d hg hu (by cases d <;> first | rfl | (simp [TypeDesc.isRow] at hd)) hi
  simp only [results, h]
  rw [Array.getD_eq_getD_getElem?] at hp
  simp [hp, asAddr, e]
set_option maxHeartbeats 400000 in
theorem cwithin_of (a b m : Nat → Int) (y : Bool) (w : World) (hm : ∀ W, Tab W → 0 < W.heap.size → Calls Tryd.prog 31 #[.agg (cc a), .agg (cc b)] W fun e w' => e = .returned (.tuple #[.agg (cc m), .bool y]) ∧ Below W.heap.size W w') (ht : Tab w) (hz : 0 < w.heap.size) :
    Calls Tryd.prog 41 #[.agg (cc a), .agg (cc b)] w fun e w' => e = .returned (.bool (y && cEq m a)) ∧ Below w.heap.size w w' := by
  have HE := Lib.hid (((Env.start ht hz).alloc (.cells (cc a) 30)).alloc (.cells (cc b) 30))
  have R0 := Lib.hid ((Blk.new w (cc a) 30).old (.cells (cc b) 30))
  have R1 := Lib.hid (Blk.new2 w (.cells (cc a) 30) (cc b) 30)
  have HM := Lib.hid hm
  clear ht hm
  go_enter Tryd.func41, Tryd.ntmps41
  go_wp2_with (first
    | (refine wpList_load_row rfl 30 _ rfl w.heap.size rfl 30 (cc a) (0, 0) _ R0.out Tryd.underlying30 rfl (by kernel_rfl) ?_)
    | (refine wpList_load_row rfl 30 _ rfl (w.heap.size + 1) rfl 30 (cc b) (0, 0) _ R1.out Tryd.underlying30 rfl (by kernel_rfl) ?_))
  refine (HM.out _ HE.out.tab HE.out.lt).mono ?_
  rintro e w1 ⟨rfl, hw1⟩
  have R01 := Lib.hid ((R0.out.below hw1).old (.cells (cc m) 30))
  have R21 := Lib.hid (Blk.new w1 (cc m) 30)
  have HB := Lib.hid ((HE.out.below hw1).alloc (.cells (cc m) 30)).kept
  clear hw1 HE R0 R1 HM
  have hgd := guardCube
  have heq : ∀ w, (Op.equalIn 10000 30 (.agg (cc m)) (.agg (cc a))).run Tryd.prog w = .ok (cEq m a) w := fun w => eql_cube m a w
  cases y
  · go_wp2_with (refine wpList_store_row rfl 30 _ _ rfl w1.heap.size (cc m) rfl rfl 30 _ (heap_alloc_new _ _) (by kernel_rfl) rfl (cc_one _) ?_; rw [World.setRow_alloc_new])
    go_ret
    exact ⟨rfl, HB.out⟩
  · go_wp2_with (first
      | (refine wpList_store_row rfl 30 _ _ rfl w1.heap.size (cc m) rfl rfl 30 _ (heap_alloc_new _ _) (by kernel_rfl) rfl (cc_one _) ?_; rw [World.setRow_alloc_new])
      | (refine loadRowG rfl 30 _ rfl w1.heap.size rfl 30 (cc m) (0, 0) R21.out Tryd.underlying30 rfl (by kernel_rfl) ?_)
      | (refine loadRowG rfl 30 _ rfl w.heap.size rfl 30 (cc a) (0, 0) R01.out Tryd.underlying30 rfl (by kernel_rfl) ?_))
    go_ret
    exact ⟨by simp, HB.out⟩
/-- is a cube within another? -/
def inB (a b : Nat → Int) : Bool := metB a b && cEq (metV a b) a
theorem cwithin_any (a b : Nat → Int) (a0 : ∀ j, 0 ≤ a j) (b0 : ∀ j, 0 ≤ b j) (w : World) (ht : Tab w) (hz : 0 < w.heap.size) :
    Calls Tryd.prog 41 #[.agg (cc a), .agg (cc b)] w fun e w' => e = .returned (.bool (inB a b)) ∧ Below w.heap.size w w' :=
  cwithin_of a b _ _ w (fun W t z => cmeet_any a b a0 b0 W t z) ht hz
/-- the order of cubes -/
def cOrd (a b : Nat → Int) : Int := if hOrd (care a) (care b) != 0 then hOrd (care a) (care b) else hOrd a b
set_option maxHeartbeats 400000 in
theorem ccmp_any (a b : Nat → Int) (w : World) : Calls Tryd.prog 39 #[.agg (cc a), .agg (cc b)] w fun e w' => e = .returned (.int .i64 (cOrd a b)) ∧ Below w.heap.size w w' := by
  have R0 := Lib.hid ((Blk.new w (cc a) 30).old (.cells (cc b) 30))
  have R1 := Lib.hid (Blk.new2 w (.cells (cc a) 30) (cc b) 30)
  have HC := Lib.hid (show (hOrd (care a) (care b) != 0) = true → cOrd a b = hOrd (care a) (care b) from fun h => by simp only [cOrd, h, if_true])
  have HD := Lib.hid (show (hOrd (care a) (care b) != 0) = false → cOrd a b = hOrd a b from fun h => by simp only [cOrd, h]; rfl)
  generalize cOrd a b = o at *
  go_enter Tryd.func39, Tryd.ntmps39
  go_wp2_with (first
    | (refine wpList_load_mid rfl 25 _ rfl w.heap.size 12 rfl (hl (care a)) _ (careR R0.out) Tryd.underlying25 rfl infoHead ?_)
    | (refine wpList_load_mid rfl 25 _ rfl (w.heap.size + 1) 12 rfl (hl (care b)) _ (careR R1.out) Tryd.underlying25 rfl infoHead ?_))
  refine (cmp_any (care a) (care b) _).mono ?_
  rintro e w1 ⟨rfl, hw1⟩
  have R01 := Lib.hid (R0.out.below hw1)
  have R11 := Lib.hid (R1.out.below hw1)
  have HB := Lib.hid ((below2 _ _ _).trans (hw1.mono (by simp; omega)))
  clear hw1 R0 R1
  cases hc : (hOrd (care a) (care b) != 0)
  · have HE := Lib.hid (HD.out hc)
    go_wp2_with (first
      | (refine wpList_load_mid rfl 25 _ rfl w.heap.size 0 rfl (hl a) _ (valR R01.out) Tryd.underlying25 rfl infoHead ?_)
      | (refine wpList_load_mid rfl 25 _ rfl (w.heap.size + 1) 0 rfl (hl b) _ (valR R11.out) Tryd.underlying25 rfl infoHead ?_))
    refine (cmp_any a b _).mono ?_
    rintro e w2 ⟨rfl, hw2⟩
    go_wp2
    go_ret
    exact ⟨ret_int HE.out.symm, HB.out.trans (hw2.mono HB.out.size)⟩
  · have HE := Lib.hid (HC.out hc)
    go_wp2
    go_ret
    exact ⟨ret_int HE.out.symm, HB.out⟩
end Go.Proofs.YtamjaohoicedfaaDoor
