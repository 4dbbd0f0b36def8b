/-
  The walk of Compare with the draws counted; slices.SortFunc of a row of cubes.
-/
import Derived.Test.YtamjaohoicedfaaDoorSpaceDel
import Derived.Test.YtamjaohoicedfaaDoorSpaceLay
import Derived.Shelf.SlSortCmp.NoneTotal
namespace Go.Proofs.YtamjaohoicedfaaDoor
open Go.RowKit

/-- new blocks and draws alone -/
def Grw (w w' : World) : Prop := Below w.heap.size w w' ∧ w.drawn ≤ w'.drawn
theorem Grw.trans {a b c : World} (h : Grw a b) (k : Grw b c) : Grw a c := ⟨h.1.trans (k.1.mono h.1.size), Nat.le_trans h.2 k.2⟩
theorem Grw.form {w w' : World} (h : Grw w w') : ∃ q os', w' = Sort.grow (w.drewN q) os' := by
  obtain ⟨hb, hd⟩ := h
  refine ⟨w'.drawn - w.drawn, w'.heap.extract w.heap.size w'.heap.size, ?_⟩
  obtain ⟨heap, tape, drawn, os, output⟩ := w
  obtain ⟨heap', tape', drawn', os', output'⟩ := w'
  obtain ⟨h1, h2, h3, h4, h5⟩ := hb
  simp only at h1 h2 h3 h4 h5 hd
  subst h1 h2 h3
  have e : drawn + (drawn' - drawn) = drawn' := by omega
  have eh : heap' = heap ++ heap'.extract heap.size heap'.size := by
    apply Array.ext_getElem?
    intro i
    by_cases hi : i < heap.size
    · rw [Array.getElem?_append_left hi, h5 i hi]
    · rw [Array.getElem?_append_right (by omega), Array.getElem?_extract]
      by_cases hi' : i < heap'.size
      · rw [if_pos (by omega), show heap.size + (i - heap.size) = i by omega]
      · rw [if_neg (by omega), Array.getElem?_eq_none (by omega)]
  unfold Sort.grow World.drewN
  simp only [e]
  rw [← eh]
/-- two headers lie in two blocks, nothing old has changed -/
def TwoD (w : World) (a b : Nat → Int) (W : World) : Prop := W.heap[w.heap.size]? = some (.cells (hc a) 25 (0, 0)) ∧ W.heap[w.heap.size + 1]? = some (.cells (hc b) 25 (0, 0)) ∧ Grw w W
theorem TwoD.start (w : World) (a b : Nat → Int) : TwoD w a b ((w.alloc (.cells (hc a) 25)).alloc (.cells (hc b) 25)) := ⟨heap_alloc2_old _ _ _, heap_alloc2_new _ _ _, below2 _ _ _, Nat.le_refl _⟩
theorem TwoD.drewN {w : World} {a b : Nat → Int} {W : World} (h : TwoD w a b W) : ∀ n, TwoD w a b (W.drewN n) := fun n =>
  ⟨h.1, h.2.1, below_drewN h.2.2.1 n, Nat.le_trans h.2.2.2 (Nat.le_add_right _ _)⟩

set_option maxHeartbeats 400000 in
theorem dcmp_lt (a b : Nat → Int) (k : Nat) (hk : k < 12) (heq : ∀ j, j < k → a j = b j) (hd : a k < b k) (w : World) :
    Calls Tryd.prog 52 #[.agg (hc a), .agg (hc b)] w fun e w' => e = .returned (.int .i64 (-1)) ∧ Grw w w' := by
  have HQ := Lib.hid heq
  have HL := Lib.hid hd
  clear heq hd
  go_enter Tryd.func52, Tryd.ntmps52
  go_wp2
  go_loopw [6] (fun i wr => ∃ r : Nat, r ≤ k ∧ i = .int .i64 r ∧ TwoD w a b wr) (fun i _ => (12 - intOf i).toNat)
  case atStart => exact ⟨0, by omega, rfl, TwoD.start w a b⟩
  case round =>
    obtain ⟨r, hr, rfl, hrow⟩ := hrel
    have HR := Lib.hid hrow
    clear hrow
    by_cases hrk : r < k
    · have h12 : r < 12 := by omega
      have ca := cell_row HR.out.1 h12
      have cb := cell_row HR.out.2.1 h12
      have e := HQ.out r hrk
      have g1 : ¬ a r < b r := by omega
      have g2 : ¬ b r < a r := by omega
      clear e
      go_wp2
      go_quiet (fail)
      go_wp2
      go_quiet (fail)
      go_wp2
      go_roundw
      case rel => exact ⟨r + 1, by omega, by go_num, HR.out.drewN _⟩
      case measure => simp [intOf]; omega
    · obtain rfl : r = k := by omega
      have ca := cell_row HR.out.1 hk
      have cb := cell_row HR.out.2.1 hk
      have g1 := HL.out
      go_wp2
      go_quiet (fail)
      go_wp2
      go_ret
      exact ⟨rfl, (HR.out.drewN _).2.2⟩
set_option maxHeartbeats 400000 in
theorem dcmp_gt (a b : Nat → Int) (k : Nat) (hk : k < 12) (heq : ∀ j, j < k → a j = b j) (hd : b k < a k) (w : World) :
    Calls Tryd.prog 52 #[.agg (hc a), .agg (hc b)] w fun e w' => e = .returned (.int .i64 1) ∧ Grw w w' := by
  have HQ := Lib.hid heq
  have HL := Lib.hid hd
  clear heq hd
  go_enter Tryd.func52, Tryd.ntmps52
  go_wp2
  go_loopw [6] (fun i wr => ∃ r : Nat, r ≤ k ∧ i = .int .i64 r ∧ TwoD w a b wr) (fun i _ => (12 - intOf i).toNat)
  case atStart => exact ⟨0, by omega, rfl, TwoD.start w a b⟩
  case round =>
    obtain ⟨r, hr, rfl, hrow⟩ := hrel
    have HR := Lib.hid hrow
    clear hrow
    by_cases hrk : r < k
    · have h12 : r < 12 := by omega
      have ca := cell_row HR.out.1 h12
      have cb := cell_row HR.out.2.1 h12
      have e := HQ.out r hrk
      have g1 : ¬ a r < b r := by omega
      have g2 : ¬ b r < a r := by omega
      clear e
      go_wp2
      go_quiet (fail)
      go_wp2
      go_quiet (fail)
      go_wp2
      go_roundw
      case rel => exact ⟨r + 1, by omega, by go_num, HR.out.drewN _⟩
      case measure => simp [intOf]; omega
    · obtain rfl : r = k := by omega
      have ca := cell_row HR.out.1 hk
      have cb := cell_row HR.out.2.1 hk
      have g1 := HL.out
      have g2 : ¬ a r < b r := by omega
      go_wp2
      go_quiet (fail)
      go_wp2
      go_quiet (fail)
      go_wp2
      go_ret
      exact ⟨rfl, ((HR.out.drewN _).drewN _).2.2⟩
set_option maxHeartbeats 400000 in
theorem dcmp_eq (a b : Nat → Int) (heq : ∀ j, j < 12 → a j = b j) (w : World) :
    Calls Tryd.prog 52 #[.agg (hc a), .agg (hc b)] w fun e w' => e = .returned (.int .i64 0) ∧ Grw w w' := by
  have HQ := Lib.hid heq
  clear heq
  go_enter Tryd.func52, Tryd.ntmps52
  go_wp2
  go_loopw [6] (fun i wr => ∃ r : Nat, r ≤ 12 ∧ i = .int .i64 r ∧ TwoD w a b wr) (fun i _ => (12 - intOf i).toNat)
  case atStart => exact ⟨0, by omega, rfl, TwoD.start w a b⟩
  case round =>
    obtain ⟨r, hr, rfl, hrow⟩ := hrel
    have HR := Lib.hid hrow
    clear hrow
    by_cases hrk : r < 12
    · have h12 : r < 12 := by omega
      have ca := cell_row HR.out.1 h12
      have cb := cell_row HR.out.2.1 h12
      have e := HQ.out r hrk
      have g1 : ¬ a r < b r := by omega
      have g2 : ¬ b r < a r := by omega
      clear e
      go_wp2
      go_quiet (fail)
      go_wp2
      go_quiet (fail)
      go_wp2
      go_roundw
      case rel => exact ⟨r + 1, by omega, by go_num, HR.out.drewN _⟩
      case measure => simp [intOf]; omega
    · go_wp2
      go_ret
      exact ⟨rfl, HR.out.2.2⟩
theorem dcmp_any (a b : Nat → Int) (w : World) : Calls Tryd.prog 52 #[.agg (hc a), .agg (hc b)] w fun e w' => e = .returned (.int .i64 (hOrd a b)) ∧ Grw w w' := by
  rcases ord_cases a b with ⟨e, k, hk, h1, h2⟩ | ⟨e, k, hk, h1, h2⟩ | ⟨e, h⟩
  · rw [e]; exact dcmp_lt a b k hk h1 h2 w
  · rw [e]; exact dcmp_gt a b k hk h1 h2 w
  · rw [e]; exact dcmp_eq a b h w
set_option maxHeartbeats 400000 in
theorem dccmp_any (a b : Nat → Int) (w : World) : Calls Tryd.prog 39 #[.agg (cc a), .agg (cc b)] w fun e w' => e = .returned (.int .i64 (cOrd a b)) ∧ Grw w w' := by
  have R0 := Lib.hid ((Blk.new w (cc a) 30).old (.cells (cc b) 30))
  have R1 := Lib.hid (Blk.new2 w (.cells (cc a) 30) (cc b) 30)
  have HC := Lib.hid (show (hOrd (care a) (care b) != 0) = true → cOrd a b = hOrd (care a) (care b) from fun h => by simp only [cOrd, h, if_true])
  have HD := Lib.hid (show (hOrd (care a) (care b) != 0) = false → cOrd a b = hOrd a b from fun h => by simp only [cOrd, h]; rfl)
  generalize cOrd a b = o at *
  go_enter Tryd.func39, Tryd.ntmps39
  go_wp2_with (first
    | (refine wpList_load_mid rfl 25 _ rfl w.heap.size 12 rfl (hl (care a)) _ (careR R0.out) Tryd.underlying25 rfl infoHead ?_)
    | (refine wpList_load_mid rfl 25 _ rfl (w.heap.size + 1) 12 rfl (hl (care b)) _ (careR R1.out) Tryd.underlying25 rfl infoHead ?_))
  refine (dcmp_any (care a) (care b) _).mono ?_
  rintro e w1 ⟨rfl, hw1⟩
  have R01 := Lib.hid (R0.out.below hw1.1)
  have R11 := Lib.hid (R1.out.below hw1.1)
  have HB := Lib.hid (Grw.trans (show Grw w ((w.alloc (.cells (cc a) 30)).alloc (.cells (cc b) 30)) from ⟨below2 _ _ _, Nat.le_refl _⟩) hw1)
  clear hw1 R0 R1
  cases hc : (hOrd (care a) (care b) != 0)
  · have HE := Lib.hid (HD.out hc)
    go_wp2_with (first
      | (refine wpList_load_mid rfl 25 _ rfl w.heap.size 0 rfl (hl a) _ (valR R01.out) Tryd.underlying25 rfl infoHead ?_)
      | (refine wpList_load_mid rfl 25 _ rfl (w.heap.size + 1) 0 rfl (hl b) _ (valR R11.out) Tryd.underlying25 rfl infoHead ?_))
    refine (dcmp_any a b _).mono ?_
    rintro e w2 ⟨rfl, hw2⟩
    go_wp2
    go_ret
    exact ⟨ret_int HE.out.symm, HB.out.trans hw2⟩
  · have HE := Lib.hid (HC.out hc)
    go_wp2
    go_ret
    exact ⟨ret_int HE.out.symm, HB.out⟩
theorem hOrd_trans0 {a b c : Nat → Int} (h1 : hOrd a b = 0) (h2 : hOrd b c = 0) : hOrd a c = 0 := by
  have e1 := ord_neg a b
  have e2 := ord_neg b c
  have e3 := ord_neg a c
  have i1 := ord_trans a b c (by omega) (by omega)
  have i2 := ord_trans c b a (by omega) (by omega)
  omega
theorem hOrd_congr_l {a b c : Nat → Int} (h : hOrd a b = 0) : hOrd a c = hOrd b c := by
  have hz : ∀ j, j < 12 → a j = b j := by
    have := ord_zero a b
    rw [h] at this
    exact (hEq_iff a b).1 (by simpa using this.symm)
  unfold hOrd
  have e : ((List.range 12).find? fun j => a j != c j) = (List.range 12).find? fun j => b j != c j := by
    have : ∀ (L : List Nat), (∀ j ∈ L, j < 12) → (L.find? fun j => a j != c j) = L.find? fun j => b j != c j := by
      intro L
      induction L with
      | nil => intro _; rfl
      | cons x L ih =>
        intro hL
        have hx := hz x (hL x (by simp))
        rw [List.find?_cons, List.find?_cons, hx, ih fun j hj => hL j (by simp [hj])]
    exact this _ (by simp)
  rw [e]
  cases hf : (List.range 12).find? fun j => b j != c j with
  | none => rfl
  | some k =>
    have hk : k < 12 := by simpa using List.mem_of_find?_eq_some hf
    simp only [hz k hk]
theorem cOrd_trans {a b c : Nat → Int} (h1 : cOrd a b ≤ 0) (h2 : cOrd b c ≤ 0) : cOrd a c ≤ 0 := by
  have nz : ∀ x y : Nat → Int, (hOrd x y != 0) = true ↔ hOrd x y ≠ 0 := fun x y => by simp
  unfold cOrd at *
  by_cases e1 : hOrd (care a) (care b) = 0
  · have c1 : hOrd (care a) (care c) = hOrd (care b) (care c) := hOrd_congr_l e1
    rw [c1]
    rw [e1] at h1
    by_cases e2 : hOrd (care b) (care c) = 0
    · rw [e2] at h2 ⊢
      simp at h1 h2 ⊢
      exact ord_trans a b c h1 h2
    · rw [if_pos ((nz _ _).2 e2)] at h2 ⊢
      exact h2
  · rw [if_pos ((nz _ _).2 e1)] at h1
    have hac : hOrd (care a) (care c) ≤ 0 := by
      refine ord_trans _ (care b) _ h1 ?_
      by_cases e2 : hOrd (care b) (care c) = 0
      · omega
      · rw [if_pos ((nz _ _).2 e2)] at h2; exact h2
    by_cases e3 : hOrd (care a) (care c) = 0
    · exfalso
      by_cases e2 : hOrd (care b) (care c) = 0
      · have n1 := ord_neg (care b) (care c)
        have := hOrd_trans0 (a := care a) (b := care c) (c := care b) e3 (by omega)
        omega
      · rw [if_pos ((nz _ _).2 e2)] at h2
        have n1 := ord_neg (care a) (care b)
        have n3 := hOrd_congr_l (a := care a) (b := care c) (c := care b) e3
        have n2 := ord_neg (care c) (care b)
        omega
    · rw [if_pos ((nz _ _).2 e3)]
      exact hac
theorem cOrd_swo : Sort.SWO (ltOf cOrd) where
  irrefl x := by
    have := cOrd_neg x x
    unfold ltOf
    rw [decide_eq_false_iff_not]
    omega
  trans x y z h1 h2 := by
    unfold ltOf at *
    rw [decide_eq_true_eq] at *
    have n1 := cOrd_neg x z
    by_cases h : cOrd x z < 0
    · exact h
    · exfalso
      have n2 := cOrd_neg y z
      have n3 := cOrd_neg x y
      have := cOrd_trans (a := z) (b := x) (c := y) (by omega) (by omega)
      omega
  ntrans x y z h1 h2 := by
    unfold ltOf at *
    rw [decide_eq_false_iff_not] at *
    have n1 := cOrd_neg x y
    have n2 := cOrd_neg y z
    have n3 := cOrd_neg x z
    have := cOrd_trans (a := z) (b := y) (c := x) (by omega) (by omega)
    omega
theorem enCompare : Enters Tryd.prog 39 := enters_of Tryd.func39 (by kernel_rfl) rfl
theorem cmpLays (blk off size : Nat) (w : World) : CmpLays Tryd.prog 39 #[] cl 24 cOrd blk off size w := fun _ _ _ _ x y =>
  (dccmp_any x y _).mono fun _ _ ⟨he, hg⟩ => ⟨he, hg.form⟩
theorem OwnsAt.holds {g cap : Nat} {l : List (Nat → Int)} {W : World} (h : OwnsAt g cap l W) : Sort.HoldsK cl 24 W g 0 l.toArray := by
  intro t ht
  rw [Sort.size_flatK] at ht
  have ht' : t < l.length * 24 := by simpa using ht
  obtain ⟨h1, h2, cur, h3, h4, h5⟩ := h
  refine ⟨?_, frozen_of_row _ g _ _ _ h3⟩
  rw [Sort.get_flatK _ _ _ t ht, cell_of_row W g _ cur _ _ h3]
  have q := h5 (t / 24) (by omega) (t % 24) (by omega)
  rw [show t / 24 * 24 + t % 24 = 0 + t by omega] at q
  rw [q]
  have hi : t / 24 < l.length := by omega
  have e1 : l.toArray[t / 24]! = nth l (t / 24) := by
    rw [getElem!_pos l.toArray _ (by simpa using hi)]
    simp [nth, List.getElem?_eq_getElem hi]
  have e2 : (cl (nth l (t / 24)))[t % 24]! = .int .u64 (nth l (t / 24) (t % 24)) := by
    rw [getElem!_pos (cl _) _ (by rw [cl_len]; omega)]
    simp [cl]
  rw [e1, id_eq, e2]
theorem sorted_heap {g : Nat} {w : World} {n : Nat} {d : Array (Nat → Int)} {os : Array Obj} {cur : Array Value} {t : TypeId} {fr : Nat × Nat} (h : w.heap[g]? = some (.cells cur t fr)) :
    ∃ cur' : Array Value, (sortWorldK cl 24 w g 0 n d os).heap[g]? = some (.cells cur' t fr) ∧ cur'.size = cur.size := by
  have hlt : g < w.heap.size := (Array.getElem?_eq_some_iff.1 h).1
  refine ⟨Sort.putCells id 0 (Sort.flatK cl 24 d) cur, ?_, by simp [Sort.putCells]⟩
  show ((w.heap.modify g (Sort.onCells (Sort.putCells id 0 (Sort.flatK cl 24 d)))) ++ os)[g]? = _
  rw [Array.getElem?_append_left (by simpa using hlt), Array.getElem?_modify, if_pos rfl, h]
  rfl
theorem sorted_below {g n : Nat} {w0 w : World} {d : Array (Nat → Int)} {os : Array Obj} (hb : Below w0.heap.size w0 w) (hg : w0.heap.size ≤ g) : Below w0.heap.size w0 (sortWorldK cl 24 w g 0 n d os) := by
  refine ⟨hb.os, hb.tape, hb.output, Nat.le_trans hb.size (size_sortWorldK_c cl 24 w g 0 n d os), fun k hk => ?_⟩
  have hkw : k < w.heap.size := Nat.lt_of_lt_of_le hk hb.size
  show ((w.heap.modify g (Sort.onCells (Sort.putCells id 0 (Sort.flatK cl 24 d)))) ++ os)[k]? = _
  rw [Array.getElem?_append_left (by simpa using hkw), Array.getElem?_modify, if_neg (by omega)]
  exact hb.block k hk
theorem OwnsAt.sorted {g cap n : Nat} {l l' : List (Nat → Int)} {w : World} {os : Array Obj} (h : OwnsAt g cap l w) (hl : l'.length = l.length) : OwnsAt g cap l' (sortWorldK cl 24 w g 0 n l'.toArray os) := by
  have hH := holdsK_sortWorldK_c cl 24 w g 0 l.toArray l'.toArray n os h.holds h.lt (by simpa using hl)
  obtain ⟨h1, h2, cur, h3, h4, h5⟩ := h
  obtain ⟨cur', e1, e2⟩ := sorted_heap (n := n) (d := l'.toArray) (os := os) h3
  refine ⟨by omega, h2, cur', e1, by rw [e2]; exact h4, fun i hi j hj => ?_⟩
  have q := (Sort.HoldsK.cell (i := i) (c := j) hH (by simpa using hi) hj).1
  rw [cell_of_row _ g _ cur' _ _ e1, Nat.zero_add] at q
  rw [q]
  have e3 : l'.toArray[i]! = nth l' i := by
    rw [getElem!_pos l'.toArray _ (by simpa using hi)]
    simp [nth, List.getElem?_eq_getElem hi]
  rw [e3, getElem!_pos (cl _) _ (by rw [cl_len]; exact hj)]
  simp [cl]
/-- sorted by Compare -/
def Sorted (l : List (Nat → Int)) : Prop := l.Pairwise fun x y => cOrd x y ≤ 0
theorem sort_any (base : Nat) (v : Value) (l : List (Nat → Int)) (hlen : l.length ≤ 1000000) (w0 w : World) (hbase : w0.heap.size ≤ base) (hl : Owns base v l w) (hb : Below w0.heap.size w0 w) :
    Calls Tryd.prog 38 #[v, .func (.func 39) #[] #[]] w fun e w' => e = .returned (.tuple #[]) ∧ ∃ l', l'.Perm l ∧ Sorted l' ∧ Owns base v l' w' ∧ Below w0.heap.size w0 w' := by
  by_cases h0 : 0 < l.length
  · obtain ⟨B, cap, rfl, _, _⟩ := World.ownsRow.form hl h0
    obtain ⟨hO, hB⟩ := OwnsAt.of hl
    have hc := AnyQ.slices_SortFunc sortCube 24 Tryd.isAgg30 Tryd.sizeOf30 cl cl_len cl_one cOrd cOrd_swo 39 #[] B 0 cap l.toArray w enCompare (cmpLays _ _ _ _) hO.holds hO.lt (by simp; omega)
    change Calls Tryd.prog 38 _ _ _ at hc
    rw [List.size_toArray] at hc
    refine hc.mono ?_
    rintro e w' ⟨he, d', n, os, hp, hs, rfl⟩
    refine ⟨he, d'.toList, ?_, ?_, ?_, sorted_below hb (by omega)⟩
    · have hsz : d'.size = l.length := by simpa using hp.1
      have q := hp.2.2
      have e1 : d'.extract 0 l.length = d' := Array.extract_eq_self_of_le (by omega)
      have e2 : l.toArray.extract 0 l.length = l.toArray := Array.extract_eq_self_of_le (by simp)
      rw [e1, e2] at q
      exact q
    · unfold Sorted
      rw [List.pairwise_iff_getElem]
      intro i j hi hj hij
      have hsz : d'.size = l.length := by simpa using hp.1
      have q := hs i j (Nat.zero_le _) hij (by rw [← hsz]; simpa using hj)
      rw [getElem!_pos d' _ (by simpa using hj), getElem!_pos d' _ (by simpa using hi)] at q
      unfold ltOf at q
      rw [decide_eq_false_iff_not] at q
      have := cOrd_neg d'[i] d'[j]
      simp only [Array.getElem_toList]
      omega
    · have hsz : d'.toList.length = l.length := by have := hp.1; simpa using this
      have q := hO.sorted (n := n) (os := os) (l' := d'.toList) hsz
      rw [Array.toArray_toList] at q
      have := q.owns (base := base) hB
      rwa [hsz] at this
  · have e : l = [] := List.length_eq_zero_iff.1 (by omega)
    subst e
    obtain ⟨p, cap, rfl⟩ := hl.form
    have hc := AnyF.slices_SortFunc_none sortCube p cap (.func (.func 39) #[] #[]) w
    refine Calls.mono hc ?_
    rintro e w' ⟨he, rfl⟩
    exact ⟨he, [], List.Perm.refl _, List.Pairwise.nil, hl, hb⟩
end Go.Proofs.YtamjaohoicedfaaDoor
