/-
  The walk of the program's With, and of the law's answers.
-/
import Derived.Test.YtioiecaklbifnaaDoorCubeEq
namespace Go.Proofs.YtioiecaklbifnaaDoor
open Go.RowKit

/-- what With answers: the error, the cube -/
def withE (c : Nat → Int) (n v b : Int) : Int := if csnd c then (if setE n v = 0 then (if b < 0 ∨ sz n.toNat < b then 13 else 0) else setE n v) else 2
def fixed (c : Nat → Int) (k : Nat) (v : Int) (b : Nat) : Nat → Int := upd (upd c (12 + k) (mkv (sz k).toNat b)) k (bits .and .u64 v (mkv (sz k).toNat b))
def withV (c : Nat → Int) (n v b : Int) : Nat → Int := if withE c n v b = 0 then fixed c n.toNat v b.toNat else zh

set_option maxHeartbeats 400000 in
theorem cwith_form (c : Nat → Int) (n v b : Int) (c0 : ∀ j, 0 ≤ c j) (w : World) (ht : Tab w) (hz : 0 < w.heap.size) (hs : csnd c = false) :
    Calls Tryd.prog 10 #[.agg (cc c), .int .i64 n, .int .u64 v, .int .i64 b] w fun e w' => e = .returned (.tuple #[.agg (cc zh), .int .i64 2]) ∧ Below w.heap.size w w' := by
  have HE := Lib.hid (((Env.start ht hz).alloc (.cells (cc c) 26)).alloc (.cells #[Value.int IntKind.u64 0, Value.int IntKind.u64 0, Value.int IntKind.u64 0, Value.int IntKind.u64 0, Value.int IntKind.u64 0, Value.int IntKind.u64 0, Value.int IntKind.u64 0, Value.int IntKind.u64 0, Value.int IntKind.u64 0, Value.int IntKind.u64 0, Value.int IntKind.u64 0, Value.int IntKind.u64 0, Value.int IntKind.u64 0, Value.int IntKind.u64 0, Value.int IntKind.u64 0, Value.int IntKind.u64 0, Value.int IntKind.u64 0, Value.int IntKind.u64 0, Value.int IntKind.u64 0, Value.int IntKind.u64 0, Value.int IntKind.u64 0, Value.int IntKind.u64 0, Value.int IntKind.u64 0, Value.int IntKind.u64 0] 26))
  have R0 := Lib.hid ((Blk.new w (cc c) 26).old (.cells #[Value.int IntKind.u64 0, Value.int IntKind.u64 0, Value.int IntKind.u64 0, Value.int IntKind.u64 0, Value.int IntKind.u64 0, Value.int IntKind.u64 0, Value.int IntKind.u64 0, Value.int IntKind.u64 0, Value.int IntKind.u64 0, Value.int IntKind.u64 0, Value.int IntKind.u64 0, Value.int IntKind.u64 0, Value.int IntKind.u64 0, Value.int IntKind.u64 0, Value.int IntKind.u64 0, Value.int IntKind.u64 0, Value.int IntKind.u64 0, Value.int IntKind.u64 0, Value.int IntKind.u64 0, Value.int IntKind.u64 0, Value.int IntKind.u64 0, Value.int IntKind.u64 0, Value.int IntKind.u64 0, Value.int IntKind.u64 0] 26))
  have R1 := Lib.hid (Blk.new2 w (.cells (cc c) 26) #[Value.int IntKind.u64 0, Value.int IntKind.u64 0, Value.int IntKind.u64 0, Value.int IntKind.u64 0, Value.int IntKind.u64 0, Value.int IntKind.u64 0, Value.int IntKind.u64 0, Value.int IntKind.u64 0, Value.int IntKind.u64 0, Value.int IntKind.u64 0, Value.int IntKind.u64 0, Value.int IntKind.u64 0, Value.int IntKind.u64 0, Value.int IntKind.u64 0, Value.int IntKind.u64 0, Value.int IntKind.u64 0, Value.int IntKind.u64 0, Value.int IntKind.u64 0, Value.int IntKind.u64 0, Value.int IntKind.u64 0, Value.int IntKind.u64 0, Value.int IntKind.u64 0, Value.int IntKind.u64 0, Value.int IntKind.u64 0] 26)
  have C0 := Lib.hid c0
  clear ht c0
  go_enter Tryd.func10, Tryd.ntmps10
  go_wp2_with (refine wpList_load_row rfl 26 _ rfl w.heap.size rfl 26 (cc c) (0, 0) _ R0.out Tryd.underlying26 rfl (by kernel_rfl) ?_)
  refine (csound_any c C0.out _ HE.out.tab HE.out.lt).mono ?_
  rintro e w1 ⟨rfl, hw1⟩
  have R11 := Lib.hid (R1.out.below hw1)
  have HB := Lib.hid (HE.out.below hw1).kept
  clear hw1 HE R0 R1
  go_wp2_with (refine wpList_store_row rfl 26 _ _ rfl (w.heap.size + 1) #[Value.int IntKind.u64 0, Value.int IntKind.u64 0, Value.int IntKind.u64 0, Value.int IntKind.u64 0, Value.int IntKind.u64 0, Value.int IntKind.u64 0, Value.int IntKind.u64 0, Value.int IntKind.u64 0, Value.int IntKind.u64 0, Value.int IntKind.u64 0, Value.int IntKind.u64 0, Value.int IntKind.u64 0, Value.int IntKind.u64 0, Value.int IntKind.u64 0, Value.int IntKind.u64 0, Value.int IntKind.u64 0, Value.int IntKind.u64 0, Value.int IntKind.u64 0, Value.int IntKind.u64 0, Value.int IntKind.u64 0, Value.int IntKind.u64 0, Value.int IntKind.u64 0, Value.int IntKind.u64 0, Value.int IntKind.u64 0] rfl rfl 26 _ R11.out (by kernel_rfl) rfl (by kernel_rfl) ?_)
  refine bodyPost_ret (v := .tuple #[.agg (cc zh), .int .i64 2]) ?_ rfl ⟨rfl, below_setRow HB.out (by omega) _⟩
  exact res_row Tryd.results10 (cs := cc zh) rfl rfl (R11.out.rset _) Tryd.underlying26 rfl (by kernel_rfl)
set_option maxHeartbeats 400000 in
theorem cwith_set (c : Nat → Int) (n v b : Int) (c0 : ∀ j, 0 ≤ c j) (v0 : 0 ≤ v) (w : World) (ht : Tab w) (hz : 0 < w.heap.size) (hs : csnd c = true) (he : (setE n v != 0) = true) :
    Calls Tryd.prog 10 #[.agg (cc c), .int .i64 n, .int .u64 v, .int .i64 b] w fun e w' => e = .returned (.tuple #[.agg (cc zh), .int .i64 (setE n v)]) ∧ Below w.heap.size w w' := by
  have HE := Lib.hid (((Env.start ht hz).alloc (.cells (cc c) 26)).alloc (.cells #[Value.int IntKind.u64 0, Value.int IntKind.u64 0, Value.int IntKind.u64 0, Value.int IntKind.u64 0, Value.int IntKind.u64 0, Value.int IntKind.u64 0, Value.int IntKind.u64 0, Value.int IntKind.u64 0, Value.int IntKind.u64 0, Value.int IntKind.u64 0, Value.int IntKind.u64 0, Value.int IntKind.u64 0, Value.int IntKind.u64 0, Value.int IntKind.u64 0, Value.int IntKind.u64 0, Value.int IntKind.u64 0, Value.int IntKind.u64 0, Value.int IntKind.u64 0, Value.int IntKind.u64 0, Value.int IntKind.u64 0, Value.int IntKind.u64 0, Value.int IntKind.u64 0, Value.int IntKind.u64 0, Value.int IntKind.u64 0] 26))
  have R0 := Lib.hid ((Blk.new w (cc c) 26).old (.cells #[Value.int IntKind.u64 0, Value.int IntKind.u64 0, Value.int IntKind.u64 0, Value.int IntKind.u64 0, Value.int IntKind.u64 0, Value.int IntKind.u64 0, Value.int IntKind.u64 0, Value.int IntKind.u64 0, Value.int IntKind.u64 0, Value.int IntKind.u64 0, Value.int IntKind.u64 0, Value.int IntKind.u64 0, Value.int IntKind.u64 0, Value.int IntKind.u64 0, Value.int IntKind.u64 0, Value.int IntKind.u64 0, Value.int IntKind.u64 0, Value.int IntKind.u64 0, Value.int IntKind.u64 0, Value.int IntKind.u64 0, Value.int IntKind.u64 0, Value.int IntKind.u64 0, Value.int IntKind.u64 0, Value.int IntKind.u64 0] 26))
  have R1 := Lib.hid (Blk.new2 w (.cells (cc c) 26) #[Value.int IntKind.u64 0, Value.int IntKind.u64 0, Value.int IntKind.u64 0, Value.int IntKind.u64 0, Value.int IntKind.u64 0, Value.int IntKind.u64 0, Value.int IntKind.u64 0, Value.int IntKind.u64 0, Value.int IntKind.u64 0, Value.int IntKind.u64 0, Value.int IntKind.u64 0, Value.int IntKind.u64 0, Value.int IntKind.u64 0, Value.int IntKind.u64 0, Value.int IntKind.u64 0, Value.int IntKind.u64 0, Value.int IntKind.u64 0, Value.int IntKind.u64 0, Value.int IntKind.u64 0, Value.int IntKind.u64 0, Value.int IntKind.u64 0, Value.int IntKind.u64 0, Value.int IntKind.u64 0, Value.int IntKind.u64 0] 26)
  have C0 := Lib.hid c0
  clear ht c0
  have HS := Lib.hid fun W => set_any c n v W v0
  generalize setE n v = se at *
  generalize setV c n v = sv at *
  go_enter Tryd.func10, Tryd.ntmps10
  go_wp2_with (refine wpList_load_row rfl 26 _ rfl w.heap.size rfl 26 (cc c) (0, 0) _ R0.out Tryd.underlying26 rfl (by kernel_rfl) ?_)
  refine (csound_any c C0.out _ HE.out.tab HE.out.lt).mono ?_
  rintro e w1 ⟨rfl, hw1⟩
  have R01 := Lib.hid (R0.out.below hw1)
  have R11 := Lib.hid (R1.out.below hw1)
  have HE1 := Lib.hid (HE.out.below hw1)
  clear hw1 HE R0 R1
  go_wp2_with (refine wpList_load_mid rfl 24 _ rfl w.heap.size 0 rfl (hl c) _ (valR R01.out) Tryd.underlying24 rfl infoHead ?_)
  refine (HS.out _ HE1.out.tab HE1.out.lt).mono ?_
  rintro e w2 ⟨rfl, hw2⟩
  have R12 := Lib.hid ((R11.out.below hw2).old (.cells (hc sv) 24))
  have HB := Lib.hid ((HE1.out.below hw2).alloc (.cells (hc sv) 24)).kept
  clear hw2 HE1 R01 R11 HS
  go_wp2_with (first
    | (refine wpList_store_row rfl 24 _ _ rfl w2.heap.size (hc sv) rfl rfl 24 _ (heap_alloc_new _ _) (by kernel_rfl) rfl (hc_one _) ?_; rw [World.setRow_alloc_new])
    | (refine wpList_store_row rfl 26 _ _ rfl (w.heap.size + 1) #[Value.int IntKind.u64 0, Value.int IntKind.u64 0, Value.int IntKind.u64 0, Value.int IntKind.u64 0, Value.int IntKind.u64 0, Value.int IntKind.u64 0, Value.int IntKind.u64 0, Value.int IntKind.u64 0, Value.int IntKind.u64 0, Value.int IntKind.u64 0, Value.int IntKind.u64 0, Value.int IntKind.u64 0, Value.int IntKind.u64 0, Value.int IntKind.u64 0, Value.int IntKind.u64 0, Value.int IntKind.u64 0, Value.int IntKind.u64 0, Value.int IntKind.u64 0, Value.int IntKind.u64 0, Value.int IntKind.u64 0, Value.int IntKind.u64 0, Value.int IntKind.u64 0, Value.int IntKind.u64 0, Value.int IntKind.u64 0] rfl rfl 26 _ R12.out (by kernel_rfl) rfl (by kernel_rfl) ?_))
  refine bodyPost_ret (v := .tuple #[.agg (cc zh), .int .i64 se]) ?_ rfl ⟨rfl, below_setRow HB.out (by omega) _⟩
  exact res_row Tryd.results10 (cs := cc zh) rfl rfl (R12.out.rset _) Tryd.underlying26 rfl (by kernel_rfl)
set_option maxHeartbeats 400000 in
theorem cwith_bits (c : Nat → Int) (k : Nat) (v b mk : Int) (c0 : ∀ j, 0 ≤ c j) (v0 : 0 ≤ v) (hk : k < 12) (hf : fitB k v = true) (w : World) (ht : Tab w) (hz : 0 < w.heap.size) (hs : csnd c = true)
    (hm : ∀ W, Tab W → Calls Tryd.prog 33 #[.int .i64 k, .int .i64 b] W fun e w' => e = .returned (.tuple #[.int .u64 mk, .bool false]) ∧ W = w') :
    Calls Tryd.prog 10 #[.agg (cc c), .int .i64 k, .int .u64 v, .int .i64 b] w fun e w' => e = .returned (.tuple #[.agg (cc zh), .int .i64 13]) ∧ Below w.heap.size w w' := by
  have HE := Lib.hid (((Env.start ht hz).alloc (.cells (cc c) 26)).alloc (.cells #[Value.int IntKind.u64 0, Value.int IntKind.u64 0, Value.int IntKind.u64 0, Value.int IntKind.u64 0, Value.int IntKind.u64 0, Value.int IntKind.u64 0, Value.int IntKind.u64 0, Value.int IntKind.u64 0, Value.int IntKind.u64 0, Value.int IntKind.u64 0, Value.int IntKind.u64 0, Value.int IntKind.u64 0, Value.int IntKind.u64 0, Value.int IntKind.u64 0, Value.int IntKind.u64 0, Value.int IntKind.u64 0, Value.int IntKind.u64 0, Value.int IntKind.u64 0, Value.int IntKind.u64 0, Value.int IntKind.u64 0, Value.int IntKind.u64 0, Value.int IntKind.u64 0, Value.int IntKind.u64 0, Value.int IntKind.u64 0] 26))
  have R0 := Lib.hid ((Blk.new w (cc c) 26).old (.cells #[Value.int IntKind.u64 0, Value.int IntKind.u64 0, Value.int IntKind.u64 0, Value.int IntKind.u64 0, Value.int IntKind.u64 0, Value.int IntKind.u64 0, Value.int IntKind.u64 0, Value.int IntKind.u64 0, Value.int IntKind.u64 0, Value.int IntKind.u64 0, Value.int IntKind.u64 0, Value.int IntKind.u64 0, Value.int IntKind.u64 0, Value.int IntKind.u64 0, Value.int IntKind.u64 0, Value.int IntKind.u64 0, Value.int IntKind.u64 0, Value.int IntKind.u64 0, Value.int IntKind.u64 0, Value.int IntKind.u64 0, Value.int IntKind.u64 0, Value.int IntKind.u64 0, Value.int IntKind.u64 0, Value.int IntKind.u64 0] 26))
  have R1 := Lib.hid (Blk.new2 w (.cells (cc c) 26) #[Value.int IntKind.u64 0, Value.int IntKind.u64 0, Value.int IntKind.u64 0, Value.int IntKind.u64 0, Value.int IntKind.u64 0, Value.int IntKind.u64 0, Value.int IntKind.u64 0, Value.int IntKind.u64 0, Value.int IntKind.u64 0, Value.int IntKind.u64 0, Value.int IntKind.u64 0, Value.int IntKind.u64 0, Value.int IntKind.u64 0, Value.int IntKind.u64 0, Value.int IntKind.u64 0, Value.int IntKind.u64 0, Value.int IntKind.u64 0, Value.int IntKind.u64 0, Value.int IntKind.u64 0, Value.int IntKind.u64 0, Value.int IntKind.u64 0, Value.int IntKind.u64 0, Value.int IntKind.u64 0, Value.int IntKind.u64 0] 26)
  have C0 := Lib.hid c0
  have HM := Lib.hid hm
  clear ht c0 hm
  have HS := Lib.hid fun W => set_any c k v W v0
  rw [setE_in k v hk hf] at HS
  generalize setV c k v = sv at *
  go_enter Tryd.func10, Tryd.ntmps10
  go_wp2_with (refine wpList_load_row rfl 26 _ rfl w.heap.size rfl 26 (cc c) (0, 0) _ R0.out Tryd.underlying26 rfl (by kernel_rfl) ?_)
  refine (csound_any c C0.out _ HE.out.tab HE.out.lt).mono ?_
  rintro e w1 ⟨rfl, hw1⟩
  have R01 := Lib.hid (R0.out.below hw1)
  have R11 := Lib.hid (R1.out.below hw1)
  have HE1 := Lib.hid (HE.out.below hw1)
  clear hw1 HE R0 R1
  go_wp2_with (refine wpList_load_mid rfl 24 _ rfl w.heap.size 0 rfl (hl c) _ (valR R01.out) Tryd.underlying24 rfl infoHead ?_)
  refine (HS.out _ HE1.out.tab HE1.out.lt).mono ?_
  rintro e w2 ⟨rfl, hw2⟩
  have R02 := Lib.hid ((R01.out.below hw2).old (.cells (hc sv) 24))
  have R12 := Lib.hid ((R11.out.below hw2).old (.cells (hc sv) 24))
  have HE2 := Lib.hid ((HE1.out.below hw2).alloc (.cells (hc sv) 24))
  clear hw2 HE1 R01 R11 HS
  go_wp2_with (first
    | (refine wpList_store_row rfl 24 _ _ rfl w2.heap.size (hc sv) rfl rfl 24 _ (heap_alloc_new _ _) (by kernel_rfl) rfl (hc_one _) ?_; rw [World.setRow_alloc_new]))
  refine (HM.out _ HE2.out.tab).mono ?_
  rintro e w3 ⟨rfl, rfl⟩
  clear HM
  generalize w2.alloc (.cells (hc sv) 24) = W at *
  go_wp2_with (refine wpList_store_row rfl 26 _ _ rfl (w.heap.size + 1) #[Value.int IntKind.u64 0, Value.int IntKind.u64 0, Value.int IntKind.u64 0, Value.int IntKind.u64 0, Value.int IntKind.u64 0, Value.int IntKind.u64 0, Value.int IntKind.u64 0, Value.int IntKind.u64 0, Value.int IntKind.u64 0, Value.int IntKind.u64 0, Value.int IntKind.u64 0, Value.int IntKind.u64 0, Value.int IntKind.u64 0, Value.int IntKind.u64 0, Value.int IntKind.u64 0, Value.int IntKind.u64 0, Value.int IntKind.u64 0, Value.int IntKind.u64 0, Value.int IntKind.u64 0, Value.int IntKind.u64 0, Value.int IntKind.u64 0, Value.int IntKind.u64 0, Value.int IntKind.u64 0, Value.int IntKind.u64 0] rfl rfl 26 _ R12.out (by kernel_rfl) rfl (by kernel_rfl) ?_)
  refine bodyPost_ret (v := .tuple #[.agg (cc zh), .int .i64 13]) ?_ rfl ⟨rfl, below_setRow HE2.out.kept (by omega) _⟩
  exact res_row Tryd.results10 (cs := cc zh) rfl rfl (R12.out.rset _) Tryd.underlying26 rfl (by kernel_rfl)
set_option maxHeartbeats 400000 in
theorem cwith_ok (c : Nat → Int) (k : Nat) (v b mk : Int) (c0 : ∀ j, 0 ≤ c j) (v0 : 0 ≤ v) (hk : k < 12) (hf : fitB k v = true) (w : World) (ht : Tab w) (hz : 0 < w.heap.size) (hs : csnd c = true)
    (hm : ∀ W, Tab W → Calls Tryd.prog 33 #[.int .i64 k, .int .i64 b] W fun e w' => e = .returned (.tuple #[.int .u64 mk, .bool true]) ∧ W = w') :
    Calls Tryd.prog 10 #[.agg (cc c), .int .i64 k, .int .u64 v, .int .i64 b] w fun e w' => e = .returned (.tuple #[.agg (cc (upd (upd c (12 + k) mk) k (bits .and .u64 v mk))), .int .i64 0]) ∧ Below w.heap.size w w' := by
  have HE := Lib.hid (((Env.start ht hz).alloc (.cells (cc c) 26)).alloc (.cells #[Value.int IntKind.u64 0, Value.int IntKind.u64 0, Value.int IntKind.u64 0, Value.int IntKind.u64 0, Value.int IntKind.u64 0, Value.int IntKind.u64 0, Value.int IntKind.u64 0, Value.int IntKind.u64 0, Value.int IntKind.u64 0, Value.int IntKind.u64 0, Value.int IntKind.u64 0, Value.int IntKind.u64 0, Value.int IntKind.u64 0, Value.int IntKind.u64 0, Value.int IntKind.u64 0, Value.int IntKind.u64 0, Value.int IntKind.u64 0, Value.int IntKind.u64 0, Value.int IntKind.u64 0, Value.int IntKind.u64 0, Value.int IntKind.u64 0, Value.int IntKind.u64 0, Value.int IntKind.u64 0, Value.int IntKind.u64 0] 26))
  have R0 := Lib.hid ((Blk.new w (cc c) 26).old (.cells #[Value.int IntKind.u64 0, Value.int IntKind.u64 0, Value.int IntKind.u64 0, Value.int IntKind.u64 0, Value.int IntKind.u64 0, Value.int IntKind.u64 0, Value.int IntKind.u64 0, Value.int IntKind.u64 0, Value.int IntKind.u64 0, Value.int IntKind.u64 0, Value.int IntKind.u64 0, Value.int IntKind.u64 0, Value.int IntKind.u64 0, Value.int IntKind.u64 0, Value.int IntKind.u64 0, Value.int IntKind.u64 0, Value.int IntKind.u64 0, Value.int IntKind.u64 0, Value.int IntKind.u64 0, Value.int IntKind.u64 0, Value.int IntKind.u64 0, Value.int IntKind.u64 0, Value.int IntKind.u64 0, Value.int IntKind.u64 0] 26))
  have R1 := Lib.hid (Blk.new2 w (.cells (cc c) 26) #[Value.int IntKind.u64 0, Value.int IntKind.u64 0, Value.int IntKind.u64 0, Value.int IntKind.u64 0, Value.int IntKind.u64 0, Value.int IntKind.u64 0, Value.int IntKind.u64 0, Value.int IntKind.u64 0, Value.int IntKind.u64 0, Value.int IntKind.u64 0, Value.int IntKind.u64 0, Value.int IntKind.u64 0, Value.int IntKind.u64 0, Value.int IntKind.u64 0, Value.int IntKind.u64 0, Value.int IntKind.u64 0, Value.int IntKind.u64 0, Value.int IntKind.u64 0, Value.int IntKind.u64 0, Value.int IntKind.u64 0, Value.int IntKind.u64 0, Value.int IntKind.u64 0, Value.int IntKind.u64 0, Value.int IntKind.u64 0] 26)
  have C0 := Lib.hid c0
  have HM := Lib.hid hm
  clear ht c0 hm
  have HS := Lib.hid fun W => set_any c k v W v0
  rw [setE_in k v hk hf] at HS
  generalize setV c k v = sv at *
  go_enter Tryd.func10, Tryd.ntmps10
  go_wp2_with (refine wpList_load_row rfl 26 _ rfl w.heap.size rfl 26 (cc c) (0, 0) _ R0.out Tryd.underlying26 rfl (by kernel_rfl) ?_)
  refine (csound_any c C0.out _ HE.out.tab HE.out.lt).mono ?_
  rintro e w1 ⟨rfl, hw1⟩
  have R01 := Lib.hid (R0.out.below hw1)
  have R11 := Lib.hid (R1.out.below hw1)
  have HE1 := Lib.hid (HE.out.below hw1)
  clear hw1 HE R0 R1
  go_wp2_with (refine wpList_load_mid rfl 24 _ rfl w.heap.size 0 rfl (hl c) _ (valR R01.out) Tryd.underlying24 rfl infoHead ?_)
  refine (HS.out _ HE1.out.tab HE1.out.lt).mono ?_
  rintro e w2 ⟨rfl, hw2⟩
  have R02 := Lib.hid ((R01.out.below hw2).old (.cells (hc sv) 24))
  have R12 := Lib.hid ((R11.out.below hw2).old (.cells (hc sv) 24))
  have HE2 := Lib.hid ((HE1.out.below hw2).alloc (.cells (hc sv) 24))
  clear hw2 HE1 R01 R11 HS
  go_wp2_with (first
    | (refine wpList_store_row rfl 24 _ _ rfl w2.heap.size (hc sv) rfl rfl 24 _ (heap_alloc_new _ _) (by kernel_rfl) rfl (hc_one _) ?_; rw [World.setRow_alloc_new]))
  refine (HM.out _ HE2.out.tab).mono ?_
  rintro e w3 ⟨rfl, rfl⟩
  clear HM
  generalize w2.alloc (.cells (hc sv) 24) = W at *
  have k1 := cellC R02.out (show 12 + k < 24 by omega)
  have f1 := frozen_of_row _ w.heap.size (12 + k) _ _ R02.out
  have Q0 := Lib.hid (R02.out.cset (show 12 + k < 24 by omega) mk)
  have Q1 := Lib.hid (R12.out.cother (show w.heap.size + 1 ≠ w.heap.size by omega) (k := 12 + k) (.int .u64 mk))
  have HB := Lib.hid (HE2.out.kept.setCell (p := ⟨w.heap.size, 12 + k, none⟩) (Nat.le_refl _) (.int .u64 mk))
  have k2 := cellC Q0.out (show k < 24 by omega)
  have f2 := frozen_of_row _ w.heap.size k _ _ Q0.out
  have Q2 := Lib.hid (Q0.out.cset (show k < 24 by omega) (bits .and .u64 v mk))
  have Q3 := Lib.hid (Q1.out.cother (show w.heap.size + 1 ≠ w.heap.size by omega) (k := k) (.int .u64 (bits .and .u64 v mk)))
  have HC := Lib.hid (HB.out.setCell (p := ⟨w.heap.size, k, none⟩) (Nat.le_refl _) (.int .u64 (bits .and .u64 v mk)))
  clear R02 R12 HE2 Q0 Q1 HB
  go_wp2_with (first
    | (refine wpList_load_row rfl 26 _ rfl w.heap.size rfl 26 _ (0, 0) _ Q2.out Tryd.underlying26 rfl (by kernel_rfl) ?_)
    | (refine wpList_store_row rfl 26 _ _ rfl (w.heap.size + 1) (cc (upd (upd c (12 + k) mk) k (bits .and .u64 v mk))) rfl rfl 26 _ Q3.out (by kernel_rfl) rfl (cc_one _) ?_))
  refine bodyPost_ret (v := .tuple #[.agg (cc (upd (upd c (12 + k) mk) k (bits .and .u64 v mk))), .int .i64 0]) ?_ rfl ⟨rfl, below_setRow HC.out (by omega) _⟩
  exact res_row Tryd.results10 rfl rfl (Q3.out.rset _) Tryd.underlying26 rfl (by kernel_rfl)
theorem cwith_any (c : Nat → Int) (n v b : Int) (c0 : ∀ j, 0 ≤ c j) (v0 : 0 ≤ v) (w : World) (ht : Tab w) (hz : 0 < w.heap.size) :
    Calls Tryd.prog 10 #[.agg (cc c), .int .i64 n, .int .u64 v, .int .i64 b] w fun e w' => e = .returned (.tuple #[.agg (cc (withV c n v b)), .int .i64 (withE c n v b)]) ∧ Below w.heap.size w w' := by
  unfold withV
  cases hs : csnd c
  · simp only [withE, hs]; exact cwith_form c n v b c0 w ht hz hs
  · by_cases he : setE n v = 0
    · obtain ⟨k, rfl, hk, hf⟩ := setE_zero he
      by_cases hb : b < 0 ∨ sz k < b
      · have e : withE c k v b = 13 := by simp [withE, hs, he, hb]
        rw [e]
        refine cwith_bits c k v b 0 c0 v0 hk hf w ht hz hs fun W t => ?_
        by_cases h0 : b < 0
        · exact mask_neg k b W hk h0
        · exact mask_big k b W hk (by omega) (by omega) t
      · have e : withE c k v b = 0 := by simp [withE, hs, he, hb]
        rw [e]
        obtain ⟨m, rfl⟩ : ∃ m : Nat, b = m := ⟨b.toNat, by omega⟩
        exact cwith_ok c k v m _ c0 v0 hk hf w ht hz hs fun W t => mask_in k m W hk (by omega) t
    · have e : withE c n v b = setE n v := by simp [withE, hs, he]
      rw [e, if_neg he]
      exact cwith_set c n v b c0 v0 w ht hz hs (by simpa using he)
end Go.Proofs.YtioiecaklbifnaaDoor
