/-
  The walks of empty, soundContents and Sound of package code.
-/
import Derived.Test.YtomnpfbebimpkaaGreatDoorCodVal
namespace Go.Proofs.YtomnpfbebimpkaaGreatDoor
set_option maxRecDepth 20000
open Go.RowKit

/-- has a message no contents at all? -/
def emptyB (m : Ms) : Bool := (m.e == 0) && (mEq m.mod zMu && ((m.port == 0) && (hEq m.head zHd && decide (m.rules.length = 0))))
theorem zMca : (#[Value.int IntKind.i64 0, Value.int IntKind.u64 0, Value.int IntKind.u64 0, Value.int IntKind.u64 0, Value.int IntKind.u64 0, Value.int IntKind.u64 0, Value.int IntKind.u64 0, Value.int IntKind.u64 0, Value.int IntKind.u64 0, Value.int IntKind.u64 0, Value.int IntKind.u64 0, Value.int IntKind.u64 0, Value.int IntKind.u64 0, Value.int IntKind.u64 0, Value.int IntKind.u64 0, Value.int IntKind.u64 0, Value.int IntKind.u64 0, Value.int IntKind.u64 0, Value.int IntKind.u64 0, Value.int IntKind.u64 0, Value.int IntKind.u64 0, Value.int IntKind.u64 0, Value.int IntKind.u64 0, Value.int IntKind.u64 0, Value.int IntKind.u64 0, Value.int IntKind.i64 0, Value.slice none 0 0, Value.int IntKind.i64 0, Value.int IntKind.i64 0, Value.int IntKind.i64 0, Value.bool false] : Array Value) = mca zMm := by kernel_rfl
theorem zHca : (#[Value.int IntKind.u64 0, Value.int IntKind.u64 0, Value.int IntKind.u64 0, Value.int IntKind.u64 0, Value.int IntKind.u64 0, Value.int IntKind.u64 0, Value.int IntKind.u64 0, Value.int IntKind.u64 0, Value.int IntKind.u64 0, Value.int IntKind.u64 0, Value.int IntKind.u64 0, Value.int IntKind.u64 0] : Array Value) = hc zHd := rfl
theorem eqlH (a : Nat → Int) (w : World) : (Op.equalIn 10000 35 (.agg (hl a).toArray) (.agg #[Value.int IntKind.u64 0, Value.int IntKind.u64 0, Value.int IntKind.u64 0, Value.int IntKind.u64 0, Value.int IntKind.u64 0, Value.int IntKind.u64 0, Value.int IntKind.u64 0, Value.int IntKind.u64 0, Value.int IntKind.u64 0, Value.int IntKind.u64 0, Value.int IntKind.u64 0, Value.int IntKind.u64 0])).run Tryz.prog w = .ok (hEq a zHd) w := eql_head a zHd w
theorem msame_z (a : Mm) (w : World) (la : InM a w) : Calls Tryz.prog 131 #[.agg (mca a), .agg #[Value.int IntKind.i64 0, Value.int IntKind.u64 0, Value.int IntKind.u64 0, Value.int IntKind.u64 0, Value.int IntKind.u64 0, Value.int IntKind.u64 0, Value.int IntKind.u64 0, Value.int IntKind.u64 0, Value.int IntKind.u64 0, Value.int IntKind.u64 0, Value.int IntKind.u64 0, Value.int IntKind.u64 0, Value.int IntKind.u64 0, Value.int IntKind.u64 0, Value.int IntKind.u64 0, Value.int IntKind.u64 0, Value.int IntKind.u64 0, Value.int IntKind.u64 0, Value.int IntKind.u64 0, Value.int IntKind.u64 0, Value.int IntKind.u64 0, Value.int IntKind.u64 0, Value.int IntKind.u64 0, Value.int IntKind.u64 0, Value.int IntKind.u64 0, Value.int IntKind.i64 0, Value.slice none 0 0, Value.int IntKind.i64 0, Value.int IntKind.i64 0, Value.int IntKind.i64 0, Value.bool false]] w fun e w' => e = .returned (.bool (mEq a.u zMu)) ∧ Below w.heap.size w w' := by
  rw [zMca]
  exact msame_any a zMm (by decide) w la (zMm_in w)
theorem nat0 {n : Nat} (h : n = 0) : (((n : Nat) : Int) == 0) = true := by simpa using h
theorem nat0' {n : Nat} (h : n ≠ 0) : (((n : Nat) : Int) == 0) = false := by simpa using h
set_option maxHeartbeats 1000000 in
theorem empty_any (g : Gm) (w : World) (hi : InG g w) : Calls Tryz.prog 106 #[.agg (gca g)] w fun e w' => e = .returned (.bool (emptyB g.u)) ∧ Below w.heap.size w w' := by
  have R0 := Lib.hid (Blk.new w (gca g) 42)
  have HB := Lib.hid (below1 w (.cells (gca g) 42))
  have HC := Lib.hid (msame_z g.mod _ (hi.1.below HB.out))
  have M0 := Lib.hid R0.out.cellsG.mod
  have k2 := R0.out.cellsG.e
  have hnl := hi.len
  obtain ⟨y, hy⟩ : ∃ y, y = emptyB g.u := ⟨_, rfl⟩
  rw [← hy]
  unfold emptyB at hy
  rw [show g.u.rules.length = g.n by rw [hnl]; exact List.length_map ..] at hy
  have HY := Lib.hid (show y = ((g.e == 0) && (mEq g.mod.u zMu && ((g.port == 0) && (hEq g.head zHd && decide (g.n = 0))))) from hy)
  clear hy hi hnl
  generalize mEq g.mod.u zMu = ym at *
  by_cases h0 : g.e = 0
  rotate_left
  · have h0d := eq_false0 h0
    go_enter Tryz.func106, Tryz.ntmps106
    go_wp2_with fail
    go_ret
    exact ⟨ret_bool (by rw [HY.out, h0d]; rfl), HB.out⟩
  have h0d := eq_true0 h0
  cases ym
  · go_enter Tryz.func106, Tryz.ntmps106
    go_wp2_with (first
      | (refine loadMidG rfl 40 _ rfl w.heap.size 3 rfl (mcl g.mod) _ M0.out Tryz.underlying40 rfl (by rw [mcl_len]; exact infoM) ?_)
      | (go_at_call 131; refine HC.out.mono ?_; rintro e w1 ⟨rfl, hw1⟩))
    go_ret
    exact ⟨ret_bool (by rw [HY.out, h0d]; rfl), HB.out.trans (hw1.mono HB.out.size)⟩
  go_enter Tryz.func106, Tryz.ntmps106
  go_wp2_with (first
    | (refine loadMidG rfl 40 _ rfl w.heap.size 3 rfl (mcl g.mod) _ M0.out Tryz.underlying40 rfl (by rw [mcl_len]; exact infoM) ?_)
    | (go_at_call 131; refine HC.out.mono ?_; rintro e w1 ⟨rfl, hw1⟩; refine Hid.out ?_))
  have R1 := Lib.hid (R0.out.below hw1)
  have HB1 := Lib.hid (HB.out.trans (hw1.mono HB.out.size))
  clear hw1 HC R0 HB M0 k2
  have k34 := R1.out.cellsG.port
  have k47 := R1.out.cellsG.rules
  have MH := Lib.hid R1.out.cellsG.head
  have heq := eqlH g.head w1
  have hgd := guardHead
  generalize hEq g.head zHd = yh at *
  refine Lib.hid ?_
  by_cases h1 : g.port = 0
  rotate_left
  · have h1d := eq_false0 h1
    go_wp2_with fail
    go_ret
    exact ⟨ret_bool (by rw [HY.out, h0d, h1d]; rfl), HB1.out⟩
  have h1d := eq_true0 h1
  cases yh
  · go_wp2_with (refine loadMidG rfl 35 _ rfl w.heap.size 35 rfl (hl g.head) _ MH.out Tryz.underlying35 rfl infoHead ?_)
    go_ret
    exact ⟨ret_bool (by rw [HY.out, h0d, h1d]; rfl), HB1.out⟩
  by_cases hl : g.n = 0
  · have hld := nat0 hl
    go_wp2_with (refine loadMidG rfl 35 _ rfl w.heap.size 35 rfl (Go.Proofs.YtomnpfbebimpkaaGreatDoor.hl g.head) _ MH.out Tryz.underlying35 rfl infoHead ?_)
    go_ret
    exact ⟨ret_bool (by rw [HY.out, h0d, h1d, hl]; rfl), HB1.out⟩
  · have hld := nat0' hl
    go_wp2_with (refine loadMidG rfl 35 _ rfl w.heap.size 35 rfl (Go.Proofs.YtomnpfbebimpkaaGreatDoor.hl g.head) _ MH.out Tryz.underlying35 rfl infoHead ?_)
    go_ret
    exact ⟨ret_bool (by rw [HY.out, h0d, h1d, decide_eq_false hl]; rfl), HB1.out⟩
theorem Env.of {w W : World} (ht : Tab w) (hz : 0 < w.heap.size) (hb : Below w.heap.size w W) : Env w W := ⟨ht.below hz hb, by have := hb.size; omega, hb⟩
/-- a message in a box, its like with something taken out in the next -/
def ScS (w : World) (g g' : Gm) (W : World) : Prop := Blk w.heap.size (gca g) 42 W ∧ Blk (w.heap.size + 1) (gca g') 42 W ∧ Below w.heap.size w W
section
variable {w W W' : World} {g g' g'' : Gm}
theorem ScS.below (h : ScS w g g' W) (hb : Below W.heap.size W W') : ScS w g g' W' := ⟨h.1.below hb, h.2.1.below hb, h.2.2.trans (hb.mono h.2.2.size)⟩
theorem ScS.cell (h : ScS w g g' W) {k : Nat} {v : Value} (e : (gca g').setIfInBounds k v = gca g'') : ScS w g g'' (W.setCell ⟨w.heap.size + 1, k, none⟩ v) :=
  ⟨h.1.cother (g := w.heap.size + 1) (k := k) (by omega) v, e ▸ h.2.1.one (k := k) v, h.2.2.setCell (by show w.heap.size ≤ w.heap.size + 1; omega) _⟩
theorem ScS.mid (h : ScS w g g' W) {k : Nat} {vs : List Value} (e : stM (gca g') k vs = gca g'') : ScS w g g'' (W.setCells (w.heap.size + 1) k vs) :=
  ⟨(heap_stM_other (by omega) _ _ _).trans h.1, e ▸ heap_stM _ _ _ _ h.2.1, below_stM h.2.2 h.2.2.size (by omega) _⟩
end
theorem gca_size (g : Gm) : (gca g).size = 48 := by simp [gca, gcl, ghd, gtl, mcl, mtl, cl, hl]
theorem infoI : (Tryz.prog.info? 3).map (·.size) = some 1 := by kernel_rfl
theorem infoErr : (Tryz.prog.info? 32).map (·.size) = some 1 := by kernel_rfl
theorem infoRs : (Tryz.prog.info? 27).map (·.size) = some 1 := by kernel_rfl
def noMod (g : Gm) : Gm := ⟨g.kind, g.txn, g.e, zMm, g.port, g.head, g.q, g.n, g.c, g.rs⟩
def noErr (g : Gm) : Gm := ⟨g.kind, g.txn, 0, g.mod, g.port, g.head, g.q, g.n, g.c, g.rs⟩
def noPort (g : Gm) : Gm := ⟨g.kind, g.txn, g.e, g.mod, 0, g.head, g.q, g.n, g.c, g.rs⟩
def noHead (g : Gm) : Gm := ⟨g.kind, g.txn, g.e, g.mod, g.port, zHd, g.q, g.n, g.c, g.rs⟩
def noRules (g : Gm) : Gm := ⟨g.kind, g.txn, g.e, g.mod, g.port, g.head, none, 0, 0, []⟩
theorem gcaMod (g : Gm) : stM (gca g) 3 (mcl zMm) = gca (noMod g) := by kernel_rfl
theorem gcaErr (g : Gm) : (gca g).setIfInBounds 2 (.int .i64 0) = gca (noErr g) := by kernel_rfl
theorem gcaPort (g : Gm) : (gca g).setIfInBounds 34 (.int .i64 0) = gca (noPort g) := by kernel_rfl
theorem gcaHead (g : Gm) : stM (gca g) 35 (hl zHd) = gca (noHead g) := by kernel_rfl
theorem gcaRules (g : Gm) : (gca g).setIfInBounds 47 (.slice none 0 0) = gca (noRules g) := by kernel_rfl
/-- are the contents those that the kind has, sound, and none else? -/
def sndC (m : Ms) : Bool :=
  if m.kind = 1 then sndM m.mod && emptyB { m with mod := zMu }
  else if m.kind = 6 then (decide (1 ≤ m.e) && decide (m.e ≤ 17)) && emptyB { m with e := 0 }
  else if m.kind = 8 then (decide (1 ≤ m.port) && (decide (m.port ≤ 16) && sndB m.head)) && emptyB { m with port := 0, head := zHd }
  else if m.kind = 9 then (decide (m.rules.length = 1) && m.rules.all sndR) && emptyB { m with rules := [] }
  else if m.kind = 10 then (decide (m.rules.length ≤ 65535) && tabU m.rules) && emptyB { m with rules := [] }
  else if m.kind = 2 ∨ m.kind = 3 ∨ m.kind = 4 ∨ m.kind = 5 ∨ m.kind = 7 then emptyB m else false
theorem sndMs_C (m : Ms) : sndMs m = ((decide (0 ≤ m.txn) && decide (m.txn ≤ 4294967295)) && sndC m) := by
  unfold sndMs sndC emptyB plainB
  congr 1
  by_cases h1 : m.kind = 1
  · simp only [if_pos h1, mEq_self, Bool.true_and]
    generalize sndM m.mod = a; generalize (m.e == 0) = b; generalize (m.port == 0) = c; generalize hEq m.head zHd = d; generalize decide (m.rules.length = 0) = e
    cases a <;> cases b <;> cases c <;> cases d <;> cases e <;> rfl
  simp only [if_neg h1]
  by_cases h6 : m.kind = 6
  · simp only [if_pos h6]
    generalize mEq m.mod zMu = a; generalize decide (1 ≤ m.e) = b; generalize decide (m.e ≤ 17) = b'; generalize (m.port == 0) = c; generalize hEq m.head zHd = d; generalize decide (m.rules.length = 0) = e
    cases a <;> cases b <;> cases b' <;> cases c <;> cases d <;> cases e <;> rfl
  simp only [if_neg h6]
  by_cases h8 : m.kind = 8
  · simp only [if_pos h8, hEq_refl, Bool.true_and]
    generalize mEq m.mod zMu = a; generalize (m.e == 0) = b; generalize decide (1 ≤ m.port) = c; generalize decide (m.port ≤ 16) = c'; generalize sndB m.head = d; generalize decide (m.rules.length = 0) = e
    cases a <;> cases b <;> cases c <;> cases c' <;> cases d <;> cases e <;> rfl
  simp only [if_neg h8]
  by_cases h9 : m.kind = 9
  · simp only [if_pos h9]
    generalize mEq m.mod zMu = a; generalize (m.e == 0) = b; generalize (m.port == 0) = c; generalize hEq m.head zHd = d; generalize decide (m.rules.length = 1) = e; generalize m.rules.all sndR = f
    cases a <;> cases b <;> cases c <;> cases d <;> cases e <;> cases f <;> rfl
  simp only [if_neg h9]
  by_cases h10 : m.kind = 10
  · simp only [if_pos h10]
    generalize mEq m.mod zMu = a; generalize (m.e == 0) = b; generalize (m.port == 0) = c; generalize hEq m.head zHd = d; generalize decide (m.rules.length ≤ 65535) = e; generalize tabU m.rules = f
    cases a <;> cases b <;> cases c <;> cases d <;> cases e <;> cases f <;> rfl
  simp only [if_neg h10]
  by_cases hp : m.kind = 2 ∨ m.kind = 3 ∨ m.kind = 4 ∨ m.kind = 5 ∨ m.kind = 7
  · have h2 : decide (2 ≤ m.kind) = true := decide_eq_true (by omega)
    have h7 : decide (m.kind ≤ 7) = true := decide_eq_true (by omega)
    simp only [if_pos hp, h2, h7]
    generalize mEq m.mod zMu = a; generalize (m.e == 0) = b; generalize (m.port == 0) = c; generalize hEq m.head zHd = d; generalize decide (m.rules.length = 0) = e
    cases a <;> cases b <;> cases c <;> cases d <;> cases e <;> rfl
  · have h27 : (decide (2 ≤ m.kind) && decide (m.kind ≤ 7)) = false := by
      rw [Bool.and_eq_false_iff, decide_eq_false_iff_not, decide_eq_false_iff_not]
      omega
    simp only [if_neg hp, h27, Bool.and_false]
/-- what soundContents leaves -/
def ScRet (w : World) (y : Bool) (e : Ending) (w' : World) : Prop := e = .returned (.bool y) ∧ Below w.heap.size w w' 
set_option maxHeartbeats 1000000 in
set_option maxRecDepth 100000 in
theorem sc_1 (g : Gm) (hk : g.kind = 1) (hw : WfM g.mod.u) (y : Bool) (hY : y = (sndM g.mod.u && emptyB (noMod g).u)) (w : World) (hi : InG g w) (ht : Tab w) (hz : 0 < w.heap.size) :
    Calls Tryz.prog 71 #[.agg (gca g)] w (ScRet w y) := by
  have HT := Lib.hid (fun (W : World) (hb : Below w.heap.size w W) => Env.of ht hz hb)
  have HI := Lib.hid hi
  have HY := Lib.hid hY
  clear ht hi hY
  go_enter Tryz.func71, Tryz.ntmps71
  go_upto_region 2 with (first
    | (refine wpList_load_row rfl 42 _ rfl w.heap.size rfl 42 (gca g) (0, 0) _ (heap_alloc_new _ _) Tryz.underlying42 rfl (by rw [gca_size]; exact infoG) ?_)
    | (refine wpList_store_row rfl 42 _ _ rfl (w.heap.size + 1) (gca g) rfl rfl 42 _ (heap_alloc2_new _ _ _) (by kernel_rfl) rfl (gca_one _) ?_; rw [setTwo]))
  have HS := Lib.hid (show ScS w g g ((w.alloc (.cells (gca g) 42)).alloc (.cells (gca g) 42)) from ⟨(Blk.new w (gca g) 42).old _, Blk.new2 _ _ _ _, below2 _ _ _⟩)
  generalize (w.alloc (.cells (gca g) 42)).alloc (.cells (gca g) 42) = W at *
  have k0 := HS.out.1.cellsG.kind
  rw [hk] at k0
  have HC := Lib.hid (fun (V : World) (hb : Below w.heap.size w V) => msound_any g.mod hw V (HI.out.1.below hb) (HT.out V hb).tab (HT.out V hb).lt)
  go_upto_region 7 with (refine wpList_store_mid rfl 40 _ _ rfl (w.heap.size + 1) 3 (mca zMm) rfl (congrArg Value.agg zMca) (by rw [mca_size]; exact HS.out.2.1.there (by rw [gca_size]; decide)) (by rw [mca_size]; exact infoM) (mca_one _) ?_)
  have HS1 := Lib.hid (show ScS w g (noMod g) (W.setCells (w.heap.size + 1) 3 (mca zMm).toList) from HS.out.mid (gcaMod g))
  clear HS k0
  generalize W.setCells (w.heap.size + 1) 3 (mca zMm).toList = W1 at *
  have HC1 := Lib.hid (HC.out W1 HS1.out.2.2)
  have M1 := Lib.hid HS1.out.1.cellsG.mod
  cases hy : sndM g.mod.u
  · rw [hy] at HC1
    go_wp2_with (first
      | (refine wpList_load_mid rfl 40 _ rfl w.heap.size 3 rfl (mcl g.mod) _ M1.out Tryz.underlying40 rfl (by rw [mcl_len]; exact infoM) ?_)
      | (go_at_call 102; refine HC1.out.mono ?_; rintro e w2 ⟨rfl, hw2⟩; refine Hid.out ?_))
    have HS2 := Lib.hid (HS1.out.below hw2)
    clear hw2 HC1 HS1 M1
    refine Lib.hid ?_
    go_wp2_with fail
    go_ret
    exact ⟨ret_bool (by rw [HY.out, hy]; rfl), HS2.out.2.2⟩
  · rw [hy] at HC1
    go_wp2_with (first
      | (refine wpList_load_mid rfl 40 _ rfl w.heap.size 3 rfl (mcl g.mod) _ M1.out Tryz.underlying40 rfl (by rw [mcl_len]; exact infoM) ?_)
      | (go_at_call 102; refine HC1.out.mono ?_; rintro e w2 ⟨rfl, hw2⟩; refine Hid.out ?_))
    have HS2 := Lib.hid (HS1.out.below hw2)
    clear hw2 HC1 HS1 M1
    refine Lib.hid ?_
    have HC9 := Lib.hid (empty_any (noMod g) w2 ⟨zMm_in _, (HI.out.below HS2.out.2.2).2⟩)
    have R9 := Lib.hid HS2.out.2.1
    go_wp2_with (first
      | (refine loadRowG rfl 42 _ rfl (w.heap.size + 1) rfl 42 (gca (noMod g)) (0, 0) R9.out Tryz.underlying42 rfl (by rw [gca_size]; exact infoG) ?_)
      | (go_at_call 106; refine HC9.out.mono ?_; rintro e w9 ⟨rfl, hw9⟩))
    go_ret
    exact ⟨ret_bool (by rw [HY.out, hy]; try rfl), HS2.out.2.2.trans (hw9.mono HS2.out.2.2.size)⟩
set_option maxHeartbeats 1000000 in
set_option maxRecDepth 100000 in
theorem sc_6 (g : Gm) (hk : g.kind = 6) (y : Bool) (hY : y = ((decide (1 ≤ g.e) && decide (g.e ≤ 17)) && emptyB (noErr g).u)) (w : World) (hi : InG g w) (ht : Tab w) (hz : 0 < w.heap.size) :
    Calls Tryz.prog 71 #[.agg (gca g)] w (ScRet w y) := by
  have HT := Lib.hid (fun (W : World) (hb : Below w.heap.size w W) => Env.of ht hz hb)
  have HI := Lib.hid hi
  have HY := Lib.hid hY
  clear ht hi hY
  go_enter Tryz.func71, Tryz.ntmps71
  go_upto_region 2 with (first
    | (refine wpList_load_row rfl 42 _ rfl w.heap.size rfl 42 (gca g) (0, 0) _ (heap_alloc_new _ _) Tryz.underlying42 rfl (by rw [gca_size]; exact infoG) ?_)
    | (refine wpList_store_row rfl 42 _ _ rfl (w.heap.size + 1) (gca g) rfl rfl 42 _ (heap_alloc2_new _ _ _) (by kernel_rfl) rfl (gca_one _) ?_; rw [setTwo]))
  have HS := Lib.hid (show ScS w g g ((w.alloc (.cells (gca g) 42)).alloc (.cells (gca g) 42)) from ⟨(Blk.new w (gca g) 42).old _, Blk.new2 _ _ _ _, below2 _ _ _⟩)
  generalize (w.alloc (.cells (gca g) 42)).alloc (.cells (gca g) 42) = W at *
  have k0 := HS.out.1.cellsG.kind
  rw [hk] at k0
  go_upto_region 10 with (refine storeCell rfl 32 _ _ rfl (w.heap.size + 1) 2 (.int .i64 0) rfl rfl rfl (HS.out.2.1.there (by rw [gca_size]; decide)) infoErr ?_)
  have HS1 := Lib.hid (HS.out.cell (gcaErr g))
  clear HS k0
  generalize W.setCell ⟨w.heap.size + 1, 2, none⟩ (.int .i64 0) = W1 at *
  have k2 := HS1.out.1.cellsG.e
  by_cases h1 : 1 ≤ g.e
  rotate_left
  · go_wp2_with fail
    go_ret
    exact ⟨ret_bool (by rw [HY.out, show decide (1 ≤ g.e) = false from decide_eq_false (by omega)]; rfl), HS1.out.2.2⟩
  by_cases h2 : g.e ≤ 17
  rotate_left
  · go_wp2_with fail
    go_ret
    exact ⟨ret_bool (by rw [HY.out, show decide (g.e ≤ 17) = false from decide_eq_false (by omega), Bool.and_false]; rfl), HS1.out.2.2⟩
  have d1 := Lib.hid (show decide (1 ≤ g.e) = true from decide_eq_true (by omega))
  have d2 := Lib.hid (show decide (g.e ≤ 17) = true from decide_eq_true (by omega))
  have HC9 := Lib.hid (empty_any (noErr g) W1 (show InG g W1 from HI.out.below HS1.out.2.2))
  have R9 := Lib.hid HS1.out.2.1
  go_wp2_with (first
    | (refine loadRowG rfl 42 _ rfl (w.heap.size + 1) rfl 42 (gca (noErr g)) (0, 0) R9.out Tryz.underlying42 rfl (by rw [gca_size]; exact infoG) ?_)
    | (go_at_call 106; refine HC9.out.mono ?_; rintro e w9 ⟨rfl, hw9⟩))
  go_ret
  exact ⟨ret_bool (by rw [HY.out, d1.out, d2.out]; try rfl), HS1.out.2.2.trans (hw9.mono HS1.out.2.2.size)⟩
set_option maxHeartbeats 1000000 in
set_option maxRecDepth 100000 in
theorem sc_8 (g : Gm) (hk : g.kind = 8) (hw : Wf g.head) (y : Bool) (hY : y = ((decide (1 ≤ g.port) && (decide (g.port ≤ 16) && sndB g.head)) && emptyB (noHead (noPort g)).u)) (w : World) (hi : InG g w) (ht : Tab w) (hz : 0 < w.heap.size) :
    Calls Tryz.prog 71 #[.agg (gca g)] w (ScRet w y) := by
  have HT := Lib.hid (fun (W : World) (hb : Below w.heap.size w W) => Env.of ht hz hb)
  have HI := Lib.hid hi
  have HY := Lib.hid hY
  clear ht hi hY
  go_enter Tryz.func71, Tryz.ntmps71
  go_upto_region 2 with (first
    | (refine wpList_load_row rfl 42 _ rfl w.heap.size rfl 42 (gca g) (0, 0) _ (heap_alloc_new _ _) Tryz.underlying42 rfl (by rw [gca_size]; exact infoG) ?_)
    | (refine wpList_store_row rfl 42 _ _ rfl (w.heap.size + 1) (gca g) rfl rfl 42 _ (heap_alloc2_new _ _ _) (by kernel_rfl) rfl (gca_one _) ?_; rw [setTwo]))
  have HS := Lib.hid (show ScS w g g ((w.alloc (.cells (gca g) 42)).alloc (.cells (gca g) 42)) from ⟨(Blk.new w (gca g) 42).old _, Blk.new2 _ _ _ _, below2 _ _ _⟩)
  generalize (w.alloc (.cells (gca g) 42)).alloc (.cells (gca g) 42) = W at *
  have k0 := HS.out.1.cellsG.kind
  rw [hk] at k0
  have HC := Lib.hid (fun (V : World) (hb : Below w.heap.size w V) => sound_any g.head (fun j => (hw j).1) V (HT.out V hb).tab (HT.out V hb).lt)
  go_wp2_with (refine storeCell rfl 3 _ _ rfl (w.heap.size + 1) 34 (.int .i64 0) rfl rfl rfl (HS.out.2.1.there (by rw [gca_size]; decide)) infoI ?_; refine Hid.out ?_)
  have HS0 := Lib.hid (HS.out.cell (gcaPort g))
  clear HS k0
  generalize W.setCell ⟨w.heap.size + 1, 34, none⟩ (.int .i64 0) = W0 at *
  have k0 := HS0.out.1.cellsG.kind
  rw [hk] at k0
  refine Lib.hid ?_
  go_upto_region 13 with (refine wpList_store_mid rfl 35 _ _ rfl (w.heap.size + 1) 35 (hc zHd) rfl (congrArg Value.agg zHca) (HS0.out.2.1.there (by rw [gca_size]; decide)) infoHead (hc_one _) ?_)
  have HS1 := Lib.hid (show ScS w g (noHead (noPort g)) (W0.setCells (w.heap.size + 1) 35 (hc zHd).toList) from HS0.out.mid (gcaHead (noPort g)))
  clear HS0 k0
  generalize W0.setCells (w.heap.size + 1) 35 (hc zHd).toList = W1 at *
  have HC1 := Lib.hid (HC.out W1 HS1.out.2.2)
  have k34 := HS1.out.1.cellsG.port
  have MH := Lib.hid HS1.out.1.cellsG.head
  by_cases h1 : 1 ≤ g.port
  rotate_left
  · go_wp2_with fail
    go_ret
    exact ⟨ret_bool (by rw [HY.out, show decide (1 ≤ g.port) = false from decide_eq_false (by omega)]; rfl), HS1.out.2.2⟩
  by_cases h2 : g.port ≤ 16
  rotate_left
  · go_wp2_with fail
    go_ret
    exact ⟨ret_bool (by rw [HY.out, show decide (g.port ≤ 16) = false from decide_eq_false (by omega), Bool.false_and, Bool.and_false]; rfl), HS1.out.2.2⟩
  have d1 := Lib.hid (show decide (1 ≤ g.port) = true from decide_eq_true (by omega))
  have d2 := Lib.hid (show decide (g.port ≤ 16) = true from decide_eq_true (by omega))
  cases hy : sndB g.head
  · rw [hy] at HC1
    go_wp2_with (first
      | (refine loadMidG rfl 35 _ rfl w.heap.size 35 rfl (hl g.head) _ MH.out Tryz.underlying35 rfl infoHead ?_)
      | (go_at_call 103; refine HC1.out.mono ?_; rintro e w2 ⟨rfl, hw2⟩; refine Hid.out ?_))
    have HS2 := Lib.hid (HS1.out.below hw2)
    clear hw2 HC1 HS1 MH k34
    refine Lib.hid ?_
    go_wp2_with fail
    go_ret
    exact ⟨ret_bool (by rw [HY.out, d1.out, d2.out, hy]; rfl), HS2.out.2.2⟩
  · rw [hy] at HC1
    go_wp2_with (first
      | (refine loadMidG rfl 35 _ rfl w.heap.size 35 rfl (hl g.head) _ MH.out Tryz.underlying35 rfl infoHead ?_)
      | (go_at_call 103; refine HC1.out.mono ?_; rintro e w2 ⟨rfl, hw2⟩; refine Hid.out ?_))
    have HS2 := Lib.hid (HS1.out.below hw2)
    clear hw2 HC1 HS1 MH k34
    refine Lib.hid ?_
    have HC9 := Lib.hid (empty_any (noHead (noPort g)) w2 (show InG g w2 from HI.out.below HS2.out.2.2))
    have R9 := Lib.hid HS2.out.2.1
    go_wp2_with (first
      | (refine loadRowG rfl 42 _ rfl (w.heap.size + 1) rfl 42 (gca (noHead (noPort g))) (0, 0) R9.out Tryz.underlying42 rfl (by rw [gca_size]; exact infoG) ?_)
      | (go_at_call 106; refine HC9.out.mono ?_; rintro e w9 ⟨rfl, hw9⟩))
    go_ret
    exact ⟨ret_bool (by rw [HY.out, d1.out, d2.out, hy]; try rfl), HS2.out.2.2.trans (hw9.mono HS2.out.2.2.size)⟩
set_option maxHeartbeats 1000000 in
set_option maxRecDepth 100000 in
theorem sc_9 (g : Gm) (hk : g.kind = 9) (hw : WfRL g.rs) (y : Bool) (hY : y = ((decide (g.rs.length = 1) && g.rs.all fun r => sndR r.u) && emptyB (noRules g).u)) (w : World) (hi : InG g w) (ht : Tab w) (hz : 0 < w.heap.size) :
    Calls Tryz.prog 71 #[.agg (gca g)] w (ScRet w y) := by
  have HT := Lib.hid (fun (W : World) (hb : Below w.heap.size w W) => Env.of ht hz hb)
  have HI := Lib.hid hi
  have HY := Lib.hid hY
  clear ht hi hY
  go_enter Tryz.func71, Tryz.ntmps71
  go_upto_region 2 with (first
    | (refine wpList_load_row rfl 42 _ rfl w.heap.size rfl 42 (gca g) (0, 0) _ (heap_alloc_new _ _) Tryz.underlying42 rfl (by rw [gca_size]; exact infoG) ?_)
    | (refine wpList_store_row rfl 42 _ _ rfl (w.heap.size + 1) (gca g) rfl rfl 42 _ (heap_alloc2_new _ _ _) (by kernel_rfl) rfl (gca_one _) ?_; rw [setTwo]))
  have HS := Lib.hid (show ScS w g g ((w.alloc (.cells (gca g) 42)).alloc (.cells (gca g) 42)) from ⟨(Blk.new w (gca g) 42).old _, Blk.new2 _ _ _ _, below2 _ _ _⟩)
  generalize (w.alloc (.cells (gca g) 42)).alloc (.cells (gca g) 42) = W at *
  have k0 := HS.out.1.cellsG.kind
  rw [hk] at k0
  have HW := Lib.hid hw
  clear hw
  go_upto_region 16 with (refine storeCell rfl 27 _ _ rfl (w.heap.size + 1) 47 (.slice none 0 0) rfl rfl rfl (HS.out.2.1.there (by rw [gca_size]; decide)) infoRs ?_)
  have HS1 := Lib.hid (HS.out.cell (gcaRules g))
  clear HS k0
  generalize W.setCell ⟨w.heap.size + 1, 47, none⟩ (.slice none 0 0) = W1 at *
  have k47 := HS1.out.1.cellsG.rules
  have hnl := HI.out.len
  by_cases h1 : g.rs.length = 1
  rotate_left
  · have h1d : (((g.n : Nat) : Int) == 1) = false := by rw [hnl]; simp; omega
    clear hnl
    go_wp2_with fail
    go_ret
    exact ⟨ret_bool (by rw [HY.out, show decide (g.rs.length = 1) = false from decide_eq_false (by omega)]; rfl), HS1.out.2.2⟩
  have h1d : (((g.n : Nat) : Int) == 1) = true := by rw [hnl, h1]; rfl
  obtain ⟨x, hx⟩ := List.length_eq_one_iff.1 h1
  have hn1 : g.n = 1 := by rw [hnl, h1]
  rw [hn1] at h1d k47
  have HL := Lib.hid (show RLies (.slice g.q g.rs.length g.c) g.rs W1 by rw [← hnl]; exact (HI.out.below HS1.out.2.2).2)
  have hx0 : g.rs[0]? = some x := by rw [hx]; rfl
  obtain ⟨bb, oo, hq, hrg⟩ := KLies.at HL.out.1 hx0
  rw [hq] at k47
  have HR := Lib.hid (show W1.rangeAt bb (oo + 0 * 32) (rcl x) from hrg)
  have HIA := Lib.hid (HL.out.2 x (List.mem_of_getElem? hx0))
  have HC1 := Lib.hid (rsound_any x (HW.out x (List.mem_of_getElem? hx0)) W1 HIA.out (HT.out W1 HS1.out.2.2).tab (HT.out W1 HS1.out.2.2).lt)
  have HY := Lib.hid (show y = (sndR x.u && emptyB (noRules g).u) by rw [HY.out, decide_eq_true h1, hx, List.all_cons, List.all_nil, Bool.and_true, Bool.true_and])
  clear hx hnl h1 hn1 hx0 hq hrg HL HIA
  cases hy : sndR x.u
  · rw [hy] at HC1
    go_wp2_with (first
      | (refine loadMidG rfl 88 _ rfl bb (oo + 0 * 32) rfl (rcl x) _ HR.out Tryz.underlying88 rfl infoR ?_)
      | (go_at_call 104; refine HC1.out.mono ?_; rintro e w2 ⟨rfl, hw2⟩; refine Hid.out ?_))
    have HS2 := Lib.hid (HS1.out.below hw2)
    clear hw2 HC1 HS1 HR k47
    refine Lib.hid ?_
    go_wp2_with fail
    go_ret
    exact ⟨ret_bool (by rw [HY.out, hy]; rfl), HS2.out.2.2⟩
  · rw [hy] at HC1
    go_wp2_with (first
      | (refine loadMidG rfl 88 _ rfl bb (oo + 0 * 32) rfl (rcl x) _ HR.out Tryz.underlying88 rfl infoR ?_)
      | (go_at_call 104; refine HC1.out.mono ?_; rintro e w2 ⟨rfl, hw2⟩; refine Hid.out ?_))
    have HS2 := Lib.hid (HS1.out.below hw2)
    clear hw2 HC1 HS1 HR k47
    refine Lib.hid ?_
    have HC9 := Lib.hid (empty_any (noRules g) w2 ⟨(HI.out.below HS2.out.2.2).1, rlies_none _⟩)
    have R9 := Lib.hid HS2.out.2.1
    go_wp2_with (first
      | (refine loadRowG rfl 42 _ rfl (w.heap.size + 1) rfl 42 (gca (noRules g)) (0, 0) R9.out Tryz.underlying42 rfl (by rw [gca_size]; exact infoG) ?_)
      | (go_at_call 106; refine HC9.out.mono ?_; rintro e w9 ⟨rfl, hw9⟩))
    go_ret
    exact ⟨ret_bool (by rw [HY.out, hy]; try rfl), HS2.out.2.2.trans (hw9.mono HS2.out.2.2.size)⟩
set_option maxHeartbeats 1000000 in
set_option maxRecDepth 100000 in
theorem sc_10 (g : Gm) (hk : g.kind = 10) (hw : WfRL g.rs) (y : Bool) (hY : y = ((decide (g.rs.length ≤ 65535) && tabB g.rs) && emptyB (noRules g).u)) (w : World) (hi : InG g w) (ht : Tab w) (hz : 0 < w.heap.size) :
    Calls Tryz.prog 71 #[.agg (gca g)] w (ScRet w y) := by
  have HT := Lib.hid (fun (W : World) (hb : Below w.heap.size w W) => Env.of ht hz hb)
  have HI := Lib.hid hi
  have HY := Lib.hid hY
  clear ht hi hY
  go_enter Tryz.func71, Tryz.ntmps71
  go_upto_region 2 with (first
    | (refine wpList_load_row rfl 42 _ rfl w.heap.size rfl 42 (gca g) (0, 0) _ (heap_alloc_new _ _) Tryz.underlying42 rfl (by rw [gca_size]; exact infoG) ?_)
    | (refine wpList_store_row rfl 42 _ _ rfl (w.heap.size + 1) (gca g) rfl rfl 42 _ (heap_alloc2_new _ _ _) (by kernel_rfl) rfl (gca_one _) ?_; rw [setTwo]))
  have HS := Lib.hid (show ScS w g g ((w.alloc (.cells (gca g) 42)).alloc (.cells (gca g) 42)) from ⟨(Blk.new w (gca g) 42).old _, Blk.new2 _ _ _ _, below2 _ _ _⟩)
  generalize (w.alloc (.cells (gca g) 42)).alloc (.cells (gca g) 42) = W at *
  have k0 := HS.out.1.cellsG.kind
  rw [hk] at k0
  have HW := Lib.hid hw
  clear hw
  go_upto_region 19 with (refine storeCell rfl 27 _ _ rfl (w.heap.size + 1) 47 (.slice none 0 0) rfl rfl rfl (HS.out.2.1.there (by rw [gca_size]; decide)) infoRs ?_)
  have HS1 := Lib.hid (HS.out.cell (gcaRules g))
  clear HS k0
  generalize W.setCell ⟨w.heap.size + 1, 47, none⟩ (.slice none 0 0) = W1 at *
  have k47 := HS1.out.1.cellsG.rules
  have hnl := HI.out.len
  by_cases h1 : g.rs.length ≤ 65535
  rotate_left
  · have h1I : ¬ ((g.n : Nat) : Int) ≤ 65535 := by rw [hnl]; omega
    clear hnl
    go_wp2_with fail
    go_ret
    exact ⟨ret_bool (by rw [HY.out, show decide (g.rs.length ≤ 65535) = false from decide_eq_false (by omega)]; rfl), HS1.out.2.2⟩
  have h1I : ((g.n : Nat) : Int) ≤ 65535 := by rw [hnl]; omega
  have HC1 := Lib.hid (table_any (.slice g.q g.n g.c) g.rs (by omega) HW.out W1 (HI.out.below HS1.out.2.2).2 (HT.out W1 HS1.out.2.2).tab (HT.out W1 HS1.out.2.2).lt)
  have HY := Lib.hid (show y = (tabB g.rs && emptyB (noRules g).u) by rw [HY.out, decide_eq_true h1, Bool.true_and])
  clear hnl h1
  cases hy : tabB g.rs
  · rw [hy] at HC1
    go_wp2_with (go_at_call 105; refine HC1.out.mono ?_; rintro e w2 ⟨rfl, hw2⟩; refine Hid.out ?_)
    have HS2 := Lib.hid (HS1.out.below hw2)
    clear hw2 HC1 HS1 k47
    refine Lib.hid ?_
    go_wp2_with fail
    go_ret
    exact ⟨ret_bool (by rw [HY.out, hy]; rfl), HS2.out.2.2⟩
  · rw [hy] at HC1
    go_wp2_with (go_at_call 105; refine HC1.out.mono ?_; rintro e w2 ⟨rfl, hw2⟩; refine Hid.out ?_)
    have HS2 := Lib.hid (HS1.out.below hw2)
    clear hw2 HC1 HS1 k47
    refine Lib.hid ?_
    have HC9 := Lib.hid (empty_any (noRules g) w2 ⟨(HI.out.below HS2.out.2.2).1, rlies_none _⟩)
    have R9 := Lib.hid HS2.out.2.1
    go_wp2_with (first
      | (refine loadRowG rfl 42 _ rfl (w.heap.size + 1) rfl 42 (gca (noRules g)) (0, 0) R9.out Tryz.underlying42 rfl (by rw [gca_size]; exact infoG) ?_)
      | (go_at_call 106; refine HC9.out.mono ?_; rintro e w9 ⟨rfl, hw9⟩))
    go_ret
    exact ⟨ret_bool (by rw [HY.out, hy]; try rfl), HS2.out.2.2.trans (hw9.mono HS2.out.2.2.size)⟩
set_option maxHeartbeats 1000000 in
set_option maxRecDepth 100000 in
theorem sc_2 (g : Gm) (hk : g.kind = 2) (y : Bool) (hY : y = (emptyB g.u)) (w : World) (hi : InG g w) (ht : Tab w) (hz : 0 < w.heap.size) :
    Calls Tryz.prog 71 #[.agg (gca g)] w (ScRet w y) := by
  have HT := Lib.hid (fun (W : World) (hb : Below w.heap.size w W) => Env.of ht hz hb)
  have HI := Lib.hid hi
  have HY := Lib.hid hY
  clear ht hi hY
  go_enter Tryz.func71, Tryz.ntmps71
  go_upto_region 2 with (first
    | (refine wpList_load_row rfl 42 _ rfl w.heap.size rfl 42 (gca g) (0, 0) _ (heap_alloc_new _ _) Tryz.underlying42 rfl (by rw [gca_size]; exact infoG) ?_)
    | (refine wpList_store_row rfl 42 _ _ rfl (w.heap.size + 1) (gca g) rfl rfl 42 _ (heap_alloc2_new _ _ _) (by kernel_rfl) rfl (gca_one _) ?_; rw [setTwo]))
  have HS := Lib.hid (show ScS w g g ((w.alloc (.cells (gca g) 42)).alloc (.cells (gca g) 42)) from ⟨(Blk.new w (gca g) 42).old _, Blk.new2 _ _ _ _, below2 _ _ _⟩)
  generalize (w.alloc (.cells (gca g) 42)).alloc (.cells (gca g) 42) = W at *
  have k0 := HS.out.1.cellsG.kind
  rw [hk] at k0
  have HC9 := Lib.hid (empty_any g W (HI.out.below HS.out.2.2))
  have R9 := Lib.hid HS.out.2.1
  go_wp2_with (first
    | (refine loadRowG rfl 42 _ rfl (w.heap.size + 1) rfl 42 (gca g) (0, 0) R9.out Tryz.underlying42 rfl (by rw [gca_size]; exact infoG) ?_)
    | (go_at_call 106; refine HC9.out.mono ?_; rintro e w9 ⟨rfl, hw9⟩))
  go_ret
  exact ⟨ret_bool (by rw [HY.out]; try rfl), HS.out.2.2.trans (hw9.mono HS.out.2.2.size)⟩
set_option maxHeartbeats 1000000 in
set_option maxRecDepth 100000 in
theorem sc_3 (g : Gm) (hk : g.kind = 3) (y : Bool) (hY : y = (emptyB g.u)) (w : World) (hi : InG g w) (ht : Tab w) (hz : 0 < w.heap.size) :
    Calls Tryz.prog 71 #[.agg (gca g)] w (ScRet w y) := by
  have HT := Lib.hid (fun (W : World) (hb : Below w.heap.size w W) => Env.of ht hz hb)
  have HI := Lib.hid hi
  have HY := Lib.hid hY
  clear ht hi hY
  go_enter Tryz.func71, Tryz.ntmps71
  go_upto_region 2 with (first
    | (refine wpList_load_row rfl 42 _ rfl w.heap.size rfl 42 (gca g) (0, 0) _ (heap_alloc_new _ _) Tryz.underlying42 rfl (by rw [gca_size]; exact infoG) ?_)
    | (refine wpList_store_row rfl 42 _ _ rfl (w.heap.size + 1) (gca g) rfl rfl 42 _ (heap_alloc2_new _ _ _) (by kernel_rfl) rfl (gca_one _) ?_; rw [setTwo]))
  have HS := Lib.hid (show ScS w g g ((w.alloc (.cells (gca g) 42)).alloc (.cells (gca g) 42)) from ⟨(Blk.new w (gca g) 42).old _, Blk.new2 _ _ _ _, below2 _ _ _⟩)
  generalize (w.alloc (.cells (gca g) 42)).alloc (.cells (gca g) 42) = W at *
  have k0 := HS.out.1.cellsG.kind
  rw [hk] at k0
  have HC9 := Lib.hid (empty_any g W (HI.out.below HS.out.2.2))
  have R9 := Lib.hid HS.out.2.1
  go_wp2_with (first
    | (refine loadRowG rfl 42 _ rfl (w.heap.size + 1) rfl 42 (gca g) (0, 0) R9.out Tryz.underlying42 rfl (by rw [gca_size]; exact infoG) ?_)
    | (go_at_call 106; refine HC9.out.mono ?_; rintro e w9 ⟨rfl, hw9⟩))
  go_ret
  exact ⟨ret_bool (by rw [HY.out]; try rfl), HS.out.2.2.trans (hw9.mono HS.out.2.2.size)⟩
set_option maxHeartbeats 1000000 in
set_option maxRecDepth 100000 in
theorem sc_4 (g : Gm) (hk : g.kind = 4) (y : Bool) (hY : y = (emptyB g.u)) (w : World) (hi : InG g w) (ht : Tab w) (hz : 0 < w.heap.size) :
    Calls Tryz.prog 71 #[.agg (gca g)] w (ScRet w y) := by
  have HT := Lib.hid (fun (W : World) (hb : Below w.heap.size w W) => Env.of ht hz hb)
  have HI := Lib.hid hi
  have HY := Lib.hid hY
  clear ht hi hY
  go_enter Tryz.func71, Tryz.ntmps71
  go_upto_region 2 with (first
    | (refine wpList_load_row rfl 42 _ rfl w.heap.size rfl 42 (gca g) (0, 0) _ (heap_alloc_new _ _) Tryz.underlying42 rfl (by rw [gca_size]; exact infoG) ?_)
    | (refine wpList_store_row rfl 42 _ _ rfl (w.heap.size + 1) (gca g) rfl rfl 42 _ (heap_alloc2_new _ _ _) (by kernel_rfl) rfl (gca_one _) ?_; rw [setTwo]))
  have HS := Lib.hid (show ScS w g g ((w.alloc (.cells (gca g) 42)).alloc (.cells (gca g) 42)) from ⟨(Blk.new w (gca g) 42).old _, Blk.new2 _ _ _ _, below2 _ _ _⟩)
  generalize (w.alloc (.cells (gca g) 42)).alloc (.cells (gca g) 42) = W at *
  have k0 := HS.out.1.cellsG.kind
  rw [hk] at k0
  have HC9 := Lib.hid (empty_any g W (HI.out.below HS.out.2.2))
  have R9 := Lib.hid HS.out.2.1
  go_wp2_with (first
    | (refine loadRowG rfl 42 _ rfl (w.heap.size + 1) rfl 42 (gca g) (0, 0) R9.out Tryz.underlying42 rfl (by rw [gca_size]; exact infoG) ?_)
    | (go_at_call 106; refine HC9.out.mono ?_; rintro e w9 ⟨rfl, hw9⟩))
  go_ret
  exact ⟨ret_bool (by rw [HY.out]; try rfl), HS.out.2.2.trans (hw9.mono HS.out.2.2.size)⟩
set_option maxHeartbeats 1000000 in
set_option maxRecDepth 100000 in
theorem sc_5 (g : Gm) (hk : g.kind = 5) (y : Bool) (hY : y = (emptyB g.u)) (w : World) (hi : InG g w) (ht : Tab w) (hz : 0 < w.heap.size) :
    Calls Tryz.prog 71 #[.agg (gca g)] w (ScRet w y) := by
  have HT := Lib.hid (fun (W : World) (hb : Below w.heap.size w W) => Env.of ht hz hb)
  have HI := Lib.hid hi
  have HY := Lib.hid hY
  clear ht hi hY
  go_enter Tryz.func71, Tryz.ntmps71
  go_upto_region 2 with (first
    | (refine wpList_load_row rfl 42 _ rfl w.heap.size rfl 42 (gca g) (0, 0) _ (heap_alloc_new _ _) Tryz.underlying42 rfl (by rw [gca_size]; exact infoG) ?_)
    | (refine wpList_store_row rfl 42 _ _ rfl (w.heap.size + 1) (gca g) rfl rfl 42 _ (heap_alloc2_new _ _ _) (by kernel_rfl) rfl (gca_one _) ?_; rw [setTwo]))
  have HS := Lib.hid (show ScS w g g ((w.alloc (.cells (gca g) 42)).alloc (.cells (gca g) 42)) from ⟨(Blk.new w (gca g) 42).old _, Blk.new2 _ _ _ _, below2 _ _ _⟩)
  generalize (w.alloc (.cells (gca g) 42)).alloc (.cells (gca g) 42) = W at *
  have k0 := HS.out.1.cellsG.kind
  rw [hk] at k0
  have HC9 := Lib.hid (empty_any g W (HI.out.below HS.out.2.2))
  have R9 := Lib.hid HS.out.2.1
  go_wp2_with (first
    | (refine loadRowG rfl 42 _ rfl (w.heap.size + 1) rfl 42 (gca g) (0, 0) R9.out Tryz.underlying42 rfl (by rw [gca_size]; exact infoG) ?_)
    | (go_at_call 106; refine HC9.out.mono ?_; rintro e w9 ⟨rfl, hw9⟩))
  go_ret
  exact ⟨ret_bool (by rw [HY.out]; try rfl), HS.out.2.2.trans (hw9.mono HS.out.2.2.size)⟩
set_option maxHeartbeats 1000000 in
set_option maxRecDepth 100000 in
theorem sc_7 (g : Gm) (hk : g.kind = 7) (y : Bool) (hY : y = (emptyB g.u)) (w : World) (hi : InG g w) (ht : Tab w) (hz : 0 < w.heap.size) :
    Calls Tryz.prog 71 #[.agg (gca g)] w (ScRet w y) := by
  have HT := Lib.hid (fun (W : World) (hb : Below w.heap.size w W) => Env.of ht hz hb)
  have HI := Lib.hid hi
  have HY := Lib.hid hY
  clear ht hi hY
  go_enter Tryz.func71, Tryz.ntmps71
  go_upto_region 2 with (first
    | (refine wpList_load_row rfl 42 _ rfl w.heap.size rfl 42 (gca g) (0, 0) _ (heap_alloc_new _ _) Tryz.underlying42 rfl (by rw [gca_size]; exact infoG) ?_)
    | (refine wpList_store_row rfl 42 _ _ rfl (w.heap.size + 1) (gca g) rfl rfl 42 _ (heap_alloc2_new _ _ _) (by kernel_rfl) rfl (gca_one _) ?_; rw [setTwo]))
  have HS := Lib.hid (show ScS w g g ((w.alloc (.cells (gca g) 42)).alloc (.cells (gca g) 42)) from ⟨(Blk.new w (gca g) 42).old _, Blk.new2 _ _ _ _, below2 _ _ _⟩)
  generalize (w.alloc (.cells (gca g) 42)).alloc (.cells (gca g) 42) = W at *
  have k0 := HS.out.1.cellsG.kind
  rw [hk] at k0
  have HC9 := Lib.hid (empty_any g W (HI.out.below HS.out.2.2))
  have R9 := Lib.hid HS.out.2.1
  go_wp2_with (first
    | (refine loadRowG rfl 42 _ rfl (w.heap.size + 1) rfl 42 (gca g) (0, 0) R9.out Tryz.underlying42 rfl (by rw [gca_size]; exact infoG) ?_)
    | (go_at_call 106; refine HC9.out.mono ?_; rintro e w9 ⟨rfl, hw9⟩))
  go_ret
  exact ⟨ret_bool (by rw [HY.out]; try rfl), HS.out.2.2.trans (hw9.mono HS.out.2.2.size)⟩
set_option maxHeartbeats 1000000 in
set_option maxRecDepth 100000 in
theorem sc_no (g : Gm) (hn : ∀ k : Int, k = 1 ∨ k = 2 ∨ k = 3 ∨ k = 4 ∨ k = 5 ∨ k = 6 ∨ k = 7 ∨ k = 8 ∨ k = 9 ∨ k = 10 → g.kind ≠ k) (y : Bool) (hY : y = (false)) (w : World) (hi : InG g w) (ht : Tab w) (hz : 0 < w.heap.size) :
    Calls Tryz.prog 71 #[.agg (gca g)] w (ScRet w y) := by
  have HT := Lib.hid (fun (W : World) (hb : Below w.heap.size w W) => Env.of ht hz hb)
  have HI := Lib.hid hi
  have HY := Lib.hid hY
  clear ht hi hY
  go_enter Tryz.func71, Tryz.ntmps71
  go_upto_region 2 with (first
    | (refine wpList_load_row rfl 42 _ rfl w.heap.size rfl 42 (gca g) (0, 0) _ (heap_alloc_new _ _) Tryz.underlying42 rfl (by rw [gca_size]; exact infoG) ?_)
    | (refine wpList_store_row rfl 42 _ _ rfl (w.heap.size + 1) (gca g) rfl rfl 42 _ (heap_alloc2_new _ _ _) (by kernel_rfl) rfl (gca_one _) ?_; rw [setTwo]))
  have HS := Lib.hid (show ScS w g g ((w.alloc (.cells (gca g) 42)).alloc (.cells (gca g) 42)) from ⟨(Blk.new w (gca g) 42).old _, Blk.new2 _ _ _ _, below2 _ _ _⟩)
  generalize (w.alloc (.cells (gca g) 42)).alloc (.cells (gca g) 42) = W at *
  have k0 := HS.out.1.cellsG.kind
  have e1 := eq_false0 (hn 1 (by simp))
  have e2 := eq_false0 (hn 2 (by simp))
  have e3 := eq_false0 (hn 3 (by simp))
  have e4 := eq_false0 (hn 4 (by simp))
  have e5 := eq_false0 (hn 5 (by simp))
  have e6 := eq_false0 (hn 6 (by simp))
  have e7 := eq_false0 (hn 7 (by simp))
  have e8 := eq_false0 (hn 8 (by simp))
  have e9 := eq_false0 (hn 9 (by simp))
  have e10 := eq_false0 (hn 10 (by simp))
  clear hn
  go_wp2_with fail
  go_ret
  exact ⟨ret_bool HY.out.symm, HS.out.2.2⟩
theorem all_map (rs : List Rm) : (rs.map (·.u)).all sndR = rs.all fun r => sndR r.u := by rw [List.all_map]; rfl
theorem sc_any (g : Gm) (hw : WfMs g.u) (w : World) (hi : InG g w) (ht : Tab w) (hz : 0 < w.heap.size) :
    Calls Tryz.prog 71 #[.agg (gca g)] w (ScRet w (sndC g.u)) := by
  have hwr : WfRL g.rs := fun r hr => hw.rules _ (List.mem_map_of_mem hr)
  have hlen : g.u.rules.length = g.rs.length := List.length_map ..
  unfold sndC
  by_cases h1 : g.u.kind = 1
  · rw [if_pos h1]; exact sc_1 g h1 hw.mod _ rfl w hi ht hz
  rw [if_neg h1]
  by_cases h6 : g.u.kind = 6
  · rw [if_pos h6]; exact sc_6 g h6 _ rfl w hi ht hz
  rw [if_neg h6]
  by_cases h8 : g.u.kind = 8
  · rw [if_pos h8]; exact sc_8 g h8 hw.head _ rfl w hi ht hz
  rw [if_neg h8]
  by_cases h9 : g.u.kind = 9
  · rw [if_pos h9, hlen, show g.u.rules.all sndR = g.rs.all fun r => sndR r.u from all_map _]; exact sc_9 g h9 hwr _ rfl w hi ht hz
  rw [if_neg h9]
  by_cases h10 : g.u.kind = 10
  · rw [if_pos h10, hlen, show tabU g.u.rules = tabB g.rs from (tabB_tabU _).symm]; exact sc_10 g h10 hwr _ rfl w hi ht hz
  rw [if_neg h10]
  by_cases hp : g.u.kind = 2 ∨ g.u.kind = 3 ∨ g.u.kind = 4 ∨ g.u.kind = 5 ∨ g.u.kind = 7
  · rw [if_pos hp]
    rcases hp with h | h | h | h | h
    · exact sc_2 g h _ rfl w hi ht hz
    · exact sc_3 g h _ rfl w hi ht hz
    · exact sc_4 g h _ rfl w hi ht hz
    · exact sc_5 g h _ rfl w hi ht hz
    · exact sc_7 g h _ rfl w hi ht hz
  · rw [if_neg hp]
    refine sc_no g (fun k hk e => ?_) _ rfl w hi ht hz
    have e' : g.u.kind = k := e
    omega
set_option maxHeartbeats 1000000 in
theorem msnd_any (g : Gm) (hw : WfMs g.u) (w : World) (hi : InG g w) (ht : Tab w) (hz : 0 < w.heap.size) :
    Calls Tryz.prog 39 #[.agg (gca g)] w fun e w' => e = .returned (.bool (sndMs g.u)) ∧ Below w.heap.size w w' := by
  have R0 := Lib.hid (Blk.new w (gca g) 42)
  have HB := Lib.hid (below1 w (.cells (gca g) 42))
  have HC := Lib.hid (sc_any g hw _ (hi.below HB.out) (Env.of ht hz HB.out).tab (Env.of ht hz HB.out).lt)
  have k1 := R0.out.cellsG.txn
  rw [sndMs_C]
  show Calls Tryz.prog 39 #[.agg (gca g)] w fun e w' => e = .returned (.bool ((decide (0 ≤ g.txn) && decide (g.txn ≤ 4294967295)) && sndC g.u)) ∧ Below w.heap.size w w'
  generalize sndC g.u = y at *
  clear ht hi hw
  by_cases h0 : 0 ≤ g.txn
  rotate_left
  · go_enter Tryz.func39, Tryz.ntmps39
    go_wp2_with fail
    go_ret
    exact ⟨ret_bool (by rw [show decide (0 ≤ g.txn) = false from decide_eq_false (by omega)]; rfl), HB.out⟩
  by_cases h1 : g.txn ≤ 4294967295
  rotate_left
  · go_enter Tryz.func39, Tryz.ntmps39
    go_wp2_with fail
    go_ret
    exact ⟨ret_bool (by rw [show decide (g.txn ≤ 4294967295) = false from decide_eq_false (by omega)]; first | rfl | (rw [Bool.and_false]; rfl)), HB.out⟩
  rw [decide_eq_true h0, decide_eq_true h1, Bool.true_and, Bool.true_and]
  go_enter Tryz.func39, Tryz.ntmps39
  go_wp2_with (first
    | (refine loadRowG rfl 42 _ rfl w.heap.size rfl 42 (gca g) (0, 0) R0.out Tryz.underlying42 rfl (by rw [gca_size]; exact infoG) ?_)
    | (go_at_call 71; refine HC.out.mono ?_; rintro e w1 ⟨rfl, hw1⟩))
  go_ret
  exact ⟨rfl, HB.out.trans (hw1.mono HB.out.size)⟩
end Go.Proofs.YtomnpfbebimpkaaGreatDoor
