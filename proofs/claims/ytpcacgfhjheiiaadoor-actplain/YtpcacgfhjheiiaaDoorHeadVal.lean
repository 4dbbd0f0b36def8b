/-
  Headers by value: the walks of fits, Fits, Sound, Head, Set, Compare, Order.
-/
import Derived.Test.YtpcacgfhjheiiaaDoorHeadLaw
import Derived.Deep.QuietTactic
import Derived.BigQuiet
import Derived.Deep.WholeRow
import Derived.Laws.CopyOwn
namespace Go.Proofs.YtpcacgfhjheiiaaDoor
open Go.RowKit

/-- a header's cells -/
def hc (a : Nat → Int) : Array Value := #[.int .u64 (a 0), .int .u64 (a 1), .int .u64 (a 2), .int .u64 (a 3), .int .u64 (a 4), .int .u64 (a 5), .int .u64 (a 6), .int .u64 (a 7), .int .u64 (a 8), .int .u64 (a 9), .int .u64 (a 10), .int .u64 (a 11)]
theorem hc_at (a : Nat → Int) : ∀ j, j < 12 → (hc a)[j]? = some (.int .u64 (a j))
  | 0, _ => rfl
  | 1, _ => rfl
  | 2, _ => rfl
  | 3, _ => rfl
  | 4, _ => rfl
  | 5, _ => rfl
  | 6, _ => rfl
  | 7, _ => rfl
  | 8, _ => rfl
  | 9, _ => rfl
  | 10, _ => rfl
  | 11, _ => rfl
  | j + 12, h => absurd h (by omega)
theorem hc_size (a : Nat → Int) : (hc a).size = 12 := rfl
/-- does a number fit its field? -/
def fitB (k : Nat) (v : Int) : Bool := decide (v < 2 ^ (sz k).toNat)
theorem ret_bool {a b : Bool} (h : a = b) : Ending.returned (.bool a) = .returned (.bool b) := by rw [h]
theorem fit_shr (k : Nat) (v : Int) (h0 : 0 ≤ v) : (v / 2 ^ (sz k).toNat == 0) = fitB k v := by
  unfold fitB
  have hp := pow_pos' (sz k).toNat
  rw [Bool.eq_iff_iff]
  simp only [beq_iff_eq, decide_eq_true_eq]
  constructor
  · intro h
    have := Int.lt_ediv_add_one_mul_self v hp
    rw [h] at this
    omega
  · intro h
    exact Int.ediv_eq_zero_of_lt h0 h
theorem fits_any (k : Nat) (v : Int) (w : World) (h1 : k < 12) (h0 : 0 ≤ v) (ht : Tab w) :
    Calls Tryd.prog 22 #[.int .i64 k, .int .u64 v] w fun e w' => e = .returned (.bool (fitB k v)) ∧ w = w' := by
  have hc := (ht.1 k h1).2
  clear ht
  obtain ⟨hs0, hs1⟩ := sz_le k
  go_enter Tryd.func22, Tryd.ntmps22
  go_wp2
  go_ret
  exact ⟨ret_bool (fit_shr k v h0), rfl⟩
theorem rfits_any (k : Nat) (v : Int) (w : World) :
    Calls Tryd.prog 18 #[.int .u64 v, .int .i64 (sz k)] w fun e w' => e = .returned (.bool (fitB k v)) ∧ w = w' := by
  obtain ⟨hs0, hs1⟩ := sz_le k
  have hp := pow_le' (show (sz k).toNat ≤ 48 by omega)
  have hq := pow_pos' (sz k).toNat
  have HE := Lib.hid (u64_in (x := 2 ^ (sz k).toNat) (by omega) (by omega))
  clear hp hq
  go_enter Tryd.func18, Tryd.ntmps18
  go_wp2
  go_ret
  exact ⟨ret_bool (by rw [HE.out]; rfl), rfl⟩
/-- a header with another number in one field -/
def upd (a : Nat → Int) (k : Nat) (v : Int) : Nat → Int := fun j => if j = k then v else a j
theorem hc_set (a : Nat → Int) (v : Int) : ∀ k, k < 12 → (hc a).setIfInBounds k (.int .u64 v) = hc (upd a k v)
  | 0, _ => by simp [hc, upd]
  | 1, _ => by simp [hc, upd]
  | 2, _ => by simp [hc, upd]
  | 3, _ => by simp [hc, upd]
  | 4, _ => by simp [hc, upd]
  | 5, _ => by simp [hc, upd]
  | 6, _ => by simp [hc, upd]
  | 7, _ => by simp [hc, upd]
  | 8, _ => by simp [hc, upd]
  | 9, _ => by simp [hc, upd]
  | 10, _ => by simp [hc, upd]
  | 11, _ => by simp [hc, upd]
  | k + 12, h => absurd h (by omega)
theorem hc_one (a : Nat → Int) : (hc a).all (·.oneCell') = true := by simp [hc, Value.oneCell']
theorem setTwo (w : World) (A : Obj) (c c' : Array Value) (t : TypeId) : ((w.alloc A).alloc (.cells c t)).setRow (w.heap.size + 1) c' = (w.alloc A).alloc (.cells c' t) := by
  have := World.setRow_alloc_new (w.alloc A) c c' t
  simpa using this
theorem below2 (w : World) (A B : Obj) : Below w.heap.size w ((w.alloc A).alloc B) := ((Below.refl _ _).alloc (Nat.le_refl _) _).alloc (by simp) _
set_option maxHeartbeats 400000 in
theorem set_in (a : Nat → Int) (k : Nat) (v : Int) (w : World) (h1 : k < 12) (h0 : 0 ≤ v) (hf : fitB k v = true) (ht : Tab w) (hz : 0 < w.heap.size) :
    Calls Tryd.prog 15 #[.agg (hc a), .int .i64 k, .int .u64 v] w fun e w' => e = .returned (.tuple #[.agg (hc (upd a k v)), .int .i64 0]) ∧ Below w.heap.size w w' := by
  have HT := Lib.hid ht
  have hat := hc_at a k h1
  have hset := hc_set a v k h1
  clear ht
  go_enter Tryd.func15, Tryd.ntmps15
  go_wp2_with (first
    | (go_at_call 21; refine (known_in _ _ (by omega) (by omega)).mono ?_; rintro e w' ⟨rfl, rfl⟩)
    | (go_at_call 22; refine (fits_any k v _ h1 h0 (HT.out.below hz (below2 _ _ _))).mono ?_; rintro e w' ⟨rfl, rfl⟩)
    | (refine wpList_load_row rfl 25 _ rfl w.heap.size rfl 25 (hc (upd a k v)) (0, 0) _ (heap_alloc2_old _ _ _) Tryd.underlying25 rfl (by kernel_rfl) ?_)
    | (refine wpList_store_row rfl 25 _ _ rfl (w.heap.size + 1) (hc (upd a k v)) rfl rfl 25 _ (heap_alloc2_new _ _ _) (by kernel_rfl) rfl (hc_one _) ?_; rw [setTwo]))
  refine bodyPost_ret (v := .tuple #[.agg (hc (upd a k v)), .int .i64 0]) ?_ rfl ⟨rfl, below2 _ _ _⟩
  rw [results_cell_tmp Tryd.results15]
  simp [asAddr, run_loadVar_row _ (w.heap.size + 1) 25 25 (hc (upd a k v)) (0, 0) _ (heap_alloc2_new w (.cells (hc (upd a k v)) 25) _) Tryd.underlying25 rfl (by kernel_rfl)]
def zh : Nat → Int := fun _ => 0
theorem res_two {fn : Func} {p u : Tmp} {ty : TypeId} (h : fn.results = #[.cell p ty, .tmp u]) {tmps : Array Value} {P : Program} {w : World} {g : Nat} {t : TypeId} {cs : Array Value} {fr : Nat × Nat} {n : Nat} {e : TypeId} {x : Value}
    (hp : tmps.getD p undef = .pointer (some ⟨g, 0, none⟩)) (hx : tmps.getD u undef = x) (hg : w.heap[g]? = some (.cells cs t fr))
    (hu : P.underlying ty = some (.array n e)) (hi : (P.info? ty).map (·.size) = some cs.size) :
    (results fn tmps).run P w = .ok (.tuple #[.agg cs, x]) w := by
  rw [results_cell_tmp h, hp, hx]
  simp [asAddr, run_loadVar_row w g t ty cs fr _ hg hu rfl hi]
set_option maxHeartbeats 400000 in
theorem set_out (a : Nat → Int) (n : Int) (v : Int) (w : World) (h : n < 0 ∨ 12 ≤ n) :
    Calls Tryd.prog 15 #[.agg (hc a), .int .i64 n, .int .u64 v] w fun e w' => e = .returned (.tuple #[.agg (hc zh), .int .i64 1]) ∧ Below w.heap.size w w' := by
  go_enter Tryd.func15, Tryd.ntmps15
  go_wp2_with (go_at_call 21; refine (known_out _ _ h).mono ?_; rintro e w' ⟨rfl, rfl⟩)
  refine bodyPost_ret (v := .tuple #[.agg (hc zh), .int .i64 1]) ?_ rfl ⟨rfl, below2 _ _ _⟩
  exact res_two Tryd.results15 (cs := hc zh) rfl rfl (heap_alloc2_new w _ _) Tryd.underlying25 (by kernel_rfl)
set_option maxHeartbeats 400000 in
theorem set_big (a : Nat → Int) (k : Nat) (v : Int) (w : World) (h1 : k < 12) (h0 : 0 ≤ v) (hf : fitB k v = false) (ht : Tab w) (hz : 0 < w.heap.size) :
    Calls Tryd.prog 15 #[.agg (hc a), .int .i64 k, .int .u64 v] w fun e w' => e = .returned (.tuple #[.agg (hc zh), .int .i64 13]) ∧ Below w.heap.size w w' := by
  have HT := Lib.hid ht
  clear ht
  go_enter Tryd.func15, Tryd.ntmps15
  go_wp2_with (first
    | (go_at_call 21; refine (known_in _ _ (by omega) (by omega)).mono ?_; rintro e w' ⟨rfl, rfl⟩)
    | (go_at_call 22; refine (fits_any k v _ h1 h0 (HT.out.below hz (below2 _ _ _))).mono ?_; rintro e w' ⟨rfl, rfl⟩))
  refine bodyPost_ret (v := .tuple #[.agg (hc zh), .int .i64 13]) ?_ rfl ⟨rfl, below2 _ _ _⟩
  exact res_two Tryd.results15 (cs := hc zh) rfl rfl (heap_alloc2_new w _ _) Tryd.underlying25 (by kernel_rfl)
theorem cell_row {w : World} {g j : Nat} {a : Nat → Int} {t : TypeId} {fr : Nat × Nat} (hg : w.heap[g]? = some (.cells (hc a) t fr)) (hj : j < 12) : w.cell? ⟨g, j, none⟩ = some (.int .u64 (a j)) := by
  rw [cell_of_row w g j _ t fr hg, hc_at a j hj]
/-- What a call that makes memory leaves of the two boxes made before it. -/
theorem kept2 {w w1 : World} {A B : Obj} (h : Below ((w.alloc A).alloc B).heap.size ((w.alloc A).alloc B) w1) : w1.heap[w.heap.size]? = some A ∧ w1.heap[w.heap.size + 1]? = some B ∧ Below w.heap.size w w1 :=
  ⟨(h.block _ (by simp; omega)).trans (heap_alloc2_old _ _ _), (h.block _ (by simp)).trans (heap_alloc2_new _ _ _), (below2 w A B).trans (h.mono (by simp; omega))⟩
/-- what Set answers: the header, the error -/
def setV (a : Nat → Int) (n v : Int) : Nat → Int := if n < 0 ∨ 12 ≤ n then zh else if fitB n.toNat v then upd a n.toNat v else zh
def setE (n v : Int) : Int := if n < 0 ∨ 12 ≤ n then 1 else if fitB n.toNat v then 0 else 13
theorem set_any (a : Nat → Int) (n v : Int) (w : World) (v0 : 0 ≤ v) (ht : Tab w) (hz : 0 < w.heap.size) :
    Calls Tryd.prog 15 #[.agg (hc a), .int .i64 n, .int .u64 v] w fun e w' => e = .returned (.tuple #[.agg (hc (setV a n v)), .int .i64 (setE n v)]) ∧ Below w.heap.size w w' := by
  unfold setV setE
  by_cases hn : n < 0 ∨ 12 ≤ n
  · rw [if_pos hn, if_pos hn]; exact set_out a n v w hn
  · obtain ⟨k, rfl⟩ : ∃ k : Nat, n = k := ⟨n.toNat, by omega⟩
    rw [if_neg hn, if_neg hn]
    cases hf : fitB k v
    · simp only [Int.toNat_natCast, hf]; exact set_big a k v w (by omega) v0 hf ht hz
    · simp only [Int.toNat_natCast, hf]; exact set_in a k v w (by omega) v0 hf ht hz
theorem setV_in (a : Nat → Int) (k : Nat) (v : Int) (hk : k < 12) (hf : fitB k v = true) : setV a k v = upd a k v := by
  unfold setV; rw [if_neg (by omega)]; simp [hf]
theorem setE_zero {n v : Int} (h : setE n v = 0) : ∃ k : Nat, n = k ∧ k < 12 ∧ fitB k v = true := by
  unfold setE at h
  by_cases hn : n < 0 ∨ 12 ≤ n
  · rw [if_pos hn] at h; exact absurd h (by decide)
  · rw [if_neg hn] at h
    cases hf : fitB n.toNat v
    · rw [hf] at h; exact absurd h (by decide)
    · exact ⟨n.toNat, by omega, by omega, hf⟩
theorem setE_in (k : Nat) (v : Int) (hk : k < 12) (hf : fitB k v = true) : setE k v = 0 := by
  unfold setE; rw [if_neg (by omega)]; simp [hf]
end Go.Proofs.YtpcacgfhjheiiaaDoor
