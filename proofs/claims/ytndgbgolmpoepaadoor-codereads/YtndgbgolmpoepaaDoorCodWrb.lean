/-
  The program's writer: number, head, match, flag, acts, mod, rule, rules.
-/
import Derived.Test.YtndgbgolmpoepaaDoorCodWrt
import Derived.Test.YtndgbgolmpoepaaDoorCodVal
namespace Go.Proofs.YtndgbgolmpoepaaDoor
set_option maxRecDepth 20000
open Go.RowKit

theorem encN_snoc : ∀ (L : List (Nat × Int)) (s : Nat) (n : Int), encN (L ++ [(s, n)]) = encN L ++ numB s n
  | [], s, n => by show numB s n ++ [] = [] ++ numB s n; simp
  | (s0, n0) :: L, s, n => by rw [List.cons_append, encN, encN_snoc L, encN, List.append_assoc]
theorem rangeN_snoc (h : Nat → Int) (r : Nat) : encN ((List.range (r + 1)).map fun j => (8, h j)) = encN ((List.range r).map fun j => (8, h j)) ++ numB 8 (h r) := by
  rw [List.range_succ, List.map_append]
  exact encN_snoc _ 8 (h r)
theorem encN_len8 : ∀ L : List (Nat × Int), (∀ x ∈ L, x.1 ≤ 8) → (encN L).length ≤ L.length * 8
  | [], _ => by simp [encN]
  | (s, n) :: L, h => by
    have h1 := h (s, n) (List.mem_cons_self ..)
    have h2 := encN_len8 L fun x hx => h x (List.mem_cons_of_mem _ hx)
    rw [encN, List.length_append, numB_len, List.length_cons]
    omega
theorem rangeN_len (h : Nat → Int) (r : Nat) : (encN ((List.range r).map fun j => (8, h j))).length = r * 8 := by
  induction r with
  | zero => rfl
  | succ r ih => rw [rangeN_snoc, List.length_append, ih, numB_len]; omega
theorem cubeN_split (m : Nat → Int) : cubeN m = headN m ++ headN (care m) := rfl
theorem cubeN_len (m : Nat → Int) : (encN (cubeN m)).length = 192 := by
  have := rangeN_len m 24
  exact this
theorem headN_len (m : Nat → Int) : (encN (headN m)).length = 96 := rangeN_len m 12
theorem wfCare {m : Nat → Int} (h : Wf m) : Wf (care m) := fun j => h (12 + j)
/-- what a method's method leaves, one behind the other -/
theorem WrRet.seq {w0 W W' : World} {b : Nat} {l X Y : List Int} {e : Ending} {W'' : World} (h : WStep b W W') (hr : WrRet w0 b (l ++ X) Y W' e W'') : WrRet w0 b l (X ++ Y) W e W'' := ⟨hr.1, by rw [← List.append_assoc]; exact hr.2.1, h.trans hr.2.2⟩
theorem number_any (w0 : World) (b : Nat) (l : List Int) (n : Int) (h0 : 0 ≤ n) (h1 : n < 18446744073709551616) (s : Nat) (hs8 : s ≤ 8) (hlen : l.length + s ≤ 1000000000) (w : World) (h : WrS w0 b l w) :
    Calls Tryd.prog 20 #[.pointer (some ⟨b, 0, none⟩), .int .i64 n, .int .i64 (s : Int)] w (WrRet w0 b l (numB s n) w) := by
  have HC := Lib.hid (word_any w0 b l n h0 s hs8 hlen w h)
  have hw : IntKind.u64.wrap n = n := by rw [IntKind.wrap_u64]; omega
  clear h
  go_enter Tryd.func20, Tryd.ntmps20
  go_wp2_with (go_at_call 41; refine HC.out.mono ?_; rintro e w1 ⟨rfl, hs, ht⟩)
  go_end0
  exact ⟨rfl, hs, ht⟩
set_option maxHeartbeats 1000000 in
theorem whead_any (w0 : World) (b : Nat) (l : List Int) (h : Nat → Int) (hw : Wf h) (hlen : l.length + 96 ≤ 1000000000) (w : World) (hs : WrS w0 b l w) :
    Calls Tryd.prog 22 #[.pointer (some ⟨b, 0, none⟩), .agg (hc h)] w (WrRet w0 b l (encN (headN h)) w) := by
  have HS := Lib.hid (hs.alloc (.cells (hc h) 25))
  have HT := Lib.hid (WStep.alloc hs (.cells (hc h) 25))
  have HW := Lib.hid hw
  clear hs hw
  go_enter Tryd.func22, Tryd.ntmps22
  go_wp2_with (refine wpList_load_row rfl 25 _ rfl w.heap.size rfl 25 (hc h) (0, 0) _ (heap_alloc_new _ _) Tryd.underlying25 rfl infoHead ?_)
  generalize w.alloc (.cells (hc h) 25) = W at *
  go_loopg [7] 12 (fun k i wr => ∃ r : Nat, r + k = 12 ∧ i = .int .i64 r ∧ WrS w0 b (l ++ encN ((List.range r).map fun j => (8, h j))) wr ∧ WStep b w wr)
  case atStart => exact ⟨0, by omega, rfl, by show WrS w0 b (l ++ []) W; rw [List.append_nil]; exact HS.out, HT.out⟩
  case round =>
    clear HS HT
    obtain ⟨r, hr, rfl, hs, ht⟩ := hrel
    have HS := Lib.hid hs
    have HT := Lib.hid ht
    clear hs ht
    by_cases hlt : r < 12
    · have hidx := idxHead h r hlt
      have HC := Lib.hid (word_any w0 b _ (h r) (HW.out r).1 8 (Nat.le_refl _) (by rw [List.length_append, rangeN_len]; omega) wr HS.out)
      go_wp2_with (go_at_call 41; refine HC.out.mono ?_; rintro e w1 ⟨rfl, hs, ht⟩; refine Hid.out ?_)
      have HS1 := Lib.hid hs
      have HT1 := Lib.hid (HT.out.trans ht)
      clear hs ht HC HS HT
      refine Lib.hid ?_
      go_wp2_with fail
      go_roundg (12 - (r + 1))
      case measure => omega
      case rel => exact ⟨r + 1, by omega, by go_num, by rw [rangeN_snoc, ← List.append_assoc]; exact HS1.out, HT1.out⟩
    · obtain rfl : r = 12 := by omega
      go_wp2_with fail
      go_end0
      exact ⟨rfl, HS.out, HT.out⟩
set_option maxHeartbeats 1000000 in
theorem wmatch_any (w0 : World) (b : Nat) (l : List Int) (m : Nat → Int) (hw : Wf m) (hlen : l.length + 192 ≤ 1000000000) (w : World) (hs : WrS w0 b l w) :
    Calls Tryd.prog 42 #[.pointer (some ⟨b, 0, none⟩), .agg (cc m)] w (WrRet w0 b l (encN (cubeN m)) w) := by
  have HC := Lib.hid (whead_any w0 b l m hw (by omega) _ (hs.alloc (.cells (cc m) 27)))
  have HT := Lib.hid (WStep.alloc hs (.cells (cc m) 27))
  have R0 := Lib.hid (Blk.new w (cc m) 27)
  have HNe := Lib.hid (show w.heap.size ≠ b by have := hs.lt; omega)
  have HW := Lib.hid hw
  have M0 := Lib.hid (valR (w := w.alloc (.cells (cc m) 27)) (g := w.heap.size) (a := m) R0.out)
  clear hs hw
  go_enter Tryd.func42, Tryd.ntmps42
  go_wp2_with (first
    | (refine wpList_load_mid rfl 25 _ rfl w.heap.size 0 rfl (hl m) _ M0.out Tryd.underlying25 rfl infoHead ?_)
    | (go_at_call 22; refine HC.out.mono ?_; rintro e w1 ⟨rfl, hs, ht⟩; refine Hid.out ?_))
  have R1 := Lib.hid (ht.blk R0.out HNe.out (by decide))
  have HT1 := Lib.hid (HT.out.trans ht)
  have HC1 := Lib.hid (whead_any w0 b _ (care m) (wfCare HW.out) (by rw [List.length_append, headN_len]; omega) w1 hs)
  have M1 := Lib.hid (careR (w := w1) (g := w.heap.size) (a := m) R1.out)
  clear hs ht HC HT R0 M0
  refine Lib.hid ?_
  go_wp2_with (first
    | (refine wpList_load_mid rfl 25 _ rfl w.heap.size 12 rfl (hl (care m)) _ M1.out Tryd.underlying25 rfl infoHead ?_)
    | (go_at_call 22; refine HC1.out.mono ?_; rintro e w2 ⟨rfl, hs2, ht2⟩))
  go_end0
  have := WrRet.seq HT1.out (⟨rfl, hs2, ht2⟩ : WrRet w0 b (l ++ encN (headN m)) (encN (headN (care m))) w1 (.returned (.tuple #[])) w2)
  rw [cubeN_split, encN_app]
  exact this
theorem wflag_any (w0 : World) (b : Nat) (l : List Int) (on : Bool) (hlen : l.length + 1 ≤ 1000000000) (w : World) (hs : WrS w0 b l w) :
    Calls Tryd.prog 43 #[.pointer (some ⟨b, 0, none⟩), .bool on] w (WrRet w0 b l (numB 1 (if on then 1 else 0)) w) := by
  cases on
  · have HC := Lib.hid (number_any w0 b l 0 (by decide) (by decide) 1 (by decide) hlen w hs)
    clear hs
    go_enter Tryd.func43, Tryd.ntmps43
    go_wp2_with (go_at_call 20; refine HC.out.mono ?_; rintro e w1 ⟨rfl, hs, ht⟩)
    go_end0
    exact ⟨rfl, hs, ht⟩
  · have HC := Lib.hid (number_any w0 b l 1 (by decide) (by decide) 1 (by decide) hlen w hs)
    clear hs
    go_enter Tryd.func43, Tryd.ntmps43
    go_wp2_with (go_at_call 20; refine HC.out.mono ?_; rintro e w1 ⟨rfl, hs, ht⟩)
    go_end0
    exact ⟨rfl, hs, ht⟩
theorem flatM_snoc {α : Type} (f : α → List Int) {L : List α} {r : Nat} {x : α} (h : L[r]? = some x) : (L.take (r + 1)).flatMap f = (L.take r).flatMap f ++ f x := by
  rw [List.take_add_one, h, List.flatMap_append]
  simp
theorem flatM_le {α : Type} (f : α → List Int) {c : Nat} : ∀ (L : List α), (∀ x ∈ L, (f x).length ≤ c) → (L.flatMap f).length ≤ L.length * c
  | [], _ => by simp
  | x :: L, h => by
    have h1 := h x (List.mem_cons_self ..)
    have h2 := flatM_le f L fun y hy => h y (List.mem_cons_of_mem _ hy)
    rw [List.flatMap_cons, List.length_append, List.length_cons, Nat.succ_mul]
    omega
theorem actN_len (a : Ac) : (encN (actN a)).length = 11 := by
  show (numB 1 a.k ++ (numB 1 a.p ++ (numB 1 a.f ++ (numB 8 a.v ++ [])))).length = 11
  simp only [List.length_append, numB_len, List.length_nil]
theorem acts11 (L : List Ac) : (L.flatMap fun a => encN (actN a)).length ≤ L.length * 11 := flatM_le _ L fun x _ => by rw [actN_len]; exact Nat.le_refl _
theorem encA_len (L : List Ac) : (encA L).length ≤ 1 + L.length * 11 := by
  unfold encA
  have := acts11 L
  rw [List.length_append, numB_len]
  omega
theorem actN_enc (a : Ac) : encN (actN a) = numB 1 a.k ++ (numB 1 a.p ++ (numB 1 a.f ++ numB 8 a.v)) := by
  show numB 1 a.k ++ (numB 1 a.p ++ (numB 1 a.f ++ (numB 8 a.v ++ []))) = _
  rw [List.append_nil]
theorem zeroAct : ((Tryd.prog.info? 97).bind (·.zero)).map (·.cells) = some zA := by kernel_rfl
theorem blkA {W : World} {b : Nat} {a : Ac} (h : Blk b (aca a) 97 W) : W.cell? ⟨b, 0, none⟩ = some (.int .i64 a.k) ∧ W.cell? ⟨b, 1, none⟩ = some (.int .i64 a.p) ∧ W.cell? ⟨b, 2, none⟩ = some (.int .i64 a.f) ∧ W.cell? ⟨b, 3, none⟩ = some (.int .u64 a.v) :=
  ⟨(cell_of_row W b 0 _ _ _ h).trans rfl, (cell_of_row W b 1 _ _ _ h).trans rfl, (cell_of_row W b 2 _ _ _ h).trans rfl, (cell_of_row W b 3 _ _ _ h).trans rfl⟩
theorem act_rng {a : Ac} (h : FitN (actN a)) : ((0 ≤ a.k ∧ a.k < 256) ∧ (0 ≤ a.p ∧ a.p < 256) ∧ (0 ≤ a.f ∧ a.f < 256)) ∧ 0 ≤ a.v ∧ a.v < 18446744073709551616 := by
  have h0 := h (1, a.k) (by simp [actN])
  have h1 := h (1, a.p) (by simp [actN])
  have h2 := h (1, a.f) (by simp [actN])
  have h3 := h (8, a.v) (by simp [actN])
  simp only [powB_1, powB_8] at h0 h1 h2 h3
  exact ⟨⟨h0, h1, h2⟩, h3⟩
/-- actions whose numbers fit -/
def FitA (L : List Ac) : Prop := L.length ≤ 255 ∧ ∀ a ∈ L, FitN (actN a)

set_option maxHeartbeats 2000000 in
theorem wacts_any (w0 : World) (b : Nat) (l : List Int) (v : Value) (L : List Ac) (hf : FitA L) (hlen : l.length + 1 + L.length * 11 ≤ 1000000000) (w : World) (hl : KLies KA v L w0) (hs : WrS w0 b l w) :
    Calls Tryd.prog 44 #[.pointer (some ⟨b, 0, none⟩), v] w (WrRet w0 b l (encA L) w) := by
  obtain ⟨p, cap, rfl⟩ := hl.form
  have HL := Lib.hid hl
  have HF := Lib.hid hf.2
  have hL := hf.1
  have HC := Lib.hid (number_any w0 b l (L.length : Int) (by omega) (by omega) 1 (by decide) (by omega) w hs)
  clear hl hf hs
  go_enter Tryd.func44, Tryd.ntmps44
  go_wp2_with (go_at_call 20; refine HC.out.mono ?_; rintro e w1 ⟨rfl, hs, ht⟩; refine Hid.out ?_)
  have HS := Lib.hid hs
  have HT := Lib.hid ht
  clear hs ht HC
  refine Lib.hid ?_
  go_wp2_with fail
  go_loopg [12] L.length (fun k i wr => ∃ r : Nat, r + k = L.length ∧ i = .int .i64 r ∧ WrS w0 b (l ++ numB 1 (L.length : Int) ++ (L.take r).flatMap fun a => encN (actN a)) wr ∧ WStep b w wr)
  case atStart => exact ⟨0, by omega, rfl, by show WrS w0 b (l ++ numB 1 (L.length : Int) ++ []) w1; rw [List.append_nil]; exact HS.out, HT.out⟩
  case round =>
    clear HS HT
    obtain ⟨r, hr, rfl, hs, ht⟩ := hrel
    have HS := Lib.hid hs
    have HT := Lib.hid ht
    clear hs ht
    by_cases hlt : r < L.length
    · have hltI : (r : Int) < (L.length : Int) := by omega
      obtain ⟨x, hx⟩ := lt_some hlt
      have HX := Lib.hid hx
      obtain ⟨bb, o, rfl, hrg⟩ := (HL.out.below okA HS.out.kept).at hx
      have HR := Lib.hid hrg
      have hlx : ((L.take r).flatMap fun a => encN (actN a)).length ≤ r * 11 := by
        have := acts11 (L.take r)
        rw [List.length_take] at this
        rw [Nat.min_eq_left (by omega)] at this
        exact this
      obtain ⟨Y, hY⟩ : ∃ Y, Y = l ++ numB 1 (L.length : Int) ++ (L.take r).flatMap fun a => encN (actN a) := ⟨_, rfl⟩
      have hYl : Y.length + 11 ≤ 1000000000 := by rw [hY, List.length_append, List.length_append, numB_len]; omega
      rw [← hY] at HS
      have HY := Lib.hid (show l ++ numB 1 (L.length : Int) ++ ((L.take (r + 1)).flatMap fun a => encN (actN a)) = Y ++ numB 1 x.k ++ numB 1 x.p ++ numB 1 x.f ++ numB 8 x.v by rw [flatM_snoc _ hx, ← List.append_assoc, ← hY, actN_enc]; simp only [List.append_assoc])
      obtain ⟨⟨hk, hp, hfl⟩, hv⟩ := act_rng (HF.out x (List.mem_of_getElem? hx))
      have HNm := Lib.hid (And.intro hk (And.intro hp (And.intro hfl hv)))
      clear hrg hx hY hlx hk hp hfl hv
      go_upto_region 4 with (first
        | (refine wpList_load_mid rfl 97 _ rfl bb (o + r * 4) rfl (acl x) _ HR.out Tryd.underlying97 rfl infoA ?_)
        | (refine wpList_store_row rfl 97 _ _ rfl wr.heap.size (aca x) rfl rfl 97 _ (heap_alloc_new _ _) (by kernel_rfl) rfl (aca_one _) ?_; rw [World.setRow_alloc_new]))
      have HS1 := Lib.hid (HS.out.alloc (.cells (aca x) 97))
      have HT1 := Lib.hid (HT.out.trans (WStep.alloc HS.out (.cells (aca x) 97)))
      have R1 := Lib.hid (Blk.new wr (aca x) 97)
      have HNe := Lib.hid (show wr.heap.size ≠ b by have := HS.out.lt; omega)
      clear HS HT HR
      generalize wr.alloc (.cells (aca x) 97) = W1 at *
      generalize wr.heap.size = B at *
      obtain ⟨k0, _, _, _⟩ := blkA R1.out
      have HC1 := Lib.hid (number_any w0 b Y x.k HNm.out.1.1 (by have := HNm.out.1.2; omega) 1 (by decide) (by omega) W1 HS1.out)
      go_wp2_with (go_at_call 20; refine HC1.out.mono ?_; rintro e W2 ⟨rfl, hs, ht⟩; refine Hid.out ?_)
      have R2 := Lib.hid (ht.blk R1.out HNe.out (by decide))
      have HT2 := Lib.hid (HT1.out.trans ht)
      have HC2 := Lib.hid (number_any w0 b _ x.p HNm.out.2.1.1 (by have := HNm.out.2.1.2; omega) 1 (by decide) (by rw [List.length_append, numB_len]; omega) W2 hs)
      clear hs ht HC1 HS1 HT1 R1 k0
      obtain ⟨_, k1, _, _⟩ := blkA R2.out
      refine Lib.hid ?_
      go_wp2_with (go_at_call 20; refine HC2.out.mono ?_; rintro e W3 ⟨rfl, hs, ht⟩; refine Hid.out ?_)
      have R3 := Lib.hid (ht.blk R2.out HNe.out (by decide))
      have HT3 := Lib.hid (HT2.out.trans ht)
      have HC3 := Lib.hid (number_any w0 b _ x.f HNm.out.2.2.1.1 (by have := HNm.out.2.2.1.2; omega) 1 (by decide) (by simp only [List.length_append, numB_len]; omega) W3 hs)
      clear hs ht HC2 HT2 R2 k1
      obtain ⟨_, _, k2, _⟩ := blkA R3.out
      refine Lib.hid ?_
      go_wp2_with (go_at_call 20; refine HC3.out.mono ?_; rintro e W4 ⟨rfl, hs, ht⟩; refine Hid.out ?_)
      have R4 := Lib.hid (ht.blk R3.out HNe.out (by decide))
      have HT4 := Lib.hid (HT3.out.trans ht)
      have HC4 := Lib.hid (word_any w0 b _ x.v HNm.out.2.2.2.1 8 (by decide) (by simp only [List.length_append, numB_len]; omega) W4 hs)
      clear hs ht HC3 HT3 R3 k2
      obtain ⟨_, _, _, k3⟩ := blkA R4.out
      refine Lib.hid ?_
      go_wp2_with (go_at_call 41; refine HC4.out.mono ?_; rintro e W5 ⟨rfl, hs, ht⟩; refine Hid.out ?_)
      have HS5 := Lib.hid hs
      have HT5 := Lib.hid (HT4.out.trans ht)
      clear hs ht HC4 HT4 R4 k3
      refine Lib.hid ?_
      go_wp2_with fail
      go_roundg (L.length - (r + 1))
      case measure => omega
      case rel => exact ⟨r + 1, by omega, by go_num, by rw [HY.out]; exact HS5.out, HT5.out⟩
    · have hltI : ¬ (r : Int) < (L.length : Int) := by omega
      obtain rfl : r = L.length := by omega
      go_wp2_with fail
      go_end0
      refine ⟨rfl, ?_, HT.out⟩
      have := HS.out
      rw [List.take_length, List.append_assoc] at this
      exact this

/-- a change whose numbers fit -/
def FitMd (m : Mu) : Prop := FitN (modN m) ∧ FitA m.acts
theorem mod_rng {m : Mu} (h : FitN (modN m)) : (0 ≤ m.kind ∧ m.kind < 256) ∧ (0 ≤ m.p ∧ m.p < 65536) ∧ (0 ≤ m.idle ∧ m.idle < 4294967296) ∧ (0 ≤ m.hard ∧ m.hard < 4294967296) ∧ (0 ≤ m.owner ∧ m.owner < 256) := by
  have h0 := h (1, m.kind) (by simp [modN])
  have h1 := h (2, m.p) (by simp [modN])
  have h2 := h (4, m.idle) (by simp [modN])
  have h3 := h (4, m.hard) (by simp [modN])
  have h4 := h (1, m.owner) (by simp [modN])
  simp only [powB_1, powB_2, powB_4] at h0 h1 h2 h3 h4
  exact ⟨h0, h1, h2, h3, h4⟩

set_option maxHeartbeats 2000000 in
theorem wmod_any (w0 : World) (b : Nat) (l : List Int) (m : Mm) (hw : WfM m.u) (hf : FitMd m.u) (hlen : l.length + 10000 ≤ 1000000000) (w : World) (hi : InM m w0) (hs : WrS w0 b l w) :
    Calls Tryd.prog 21 #[.pointer (some ⟨b, 0, none⟩), .agg (mca m)] w (WrRet w0 b l (encM m.u) w) := by
  have HS0 := Lib.hid (hs.alloc (.cells (mca m) 30))
  have HT0 := Lib.hid (WStep.alloc hs (.cells (mca m) 30))
  have R0 := Lib.hid (Blk.new w (mca m) 30)
  have HNe := Lib.hid (show w.heap.size ≠ b by have := hs.lt; omega)
  have HW := Lib.hid hw
  have HF := Lib.hid hf
  have HI := Lib.hid hi
  have HG := Lib.hid (mod_rng hf.1)
  clear hs hw hf hi
  go_enter Tryd.func21, Tryd.ntmps21
  go_upto_region 1 with fail
  generalize hW0 : w.alloc (.cells (mca m) 30) = W0 at *
  generalize hB : w.heap.size = B at *
  have HC0 := Lib.hid (number_any w0 b l m.u.kind HG.out.1.1 (by have := HG.out.1.2; omega) 1 (by decide) (by omega) W0 HS0.out)
  have kk := R0.out.cellsM.1
  go_wp2_with (go_at_call 20; refine HC0.out.mono ?_; rintro e W1 ⟨rfl, hs, ht⟩; refine Hid.out ?_)
  have HS1 := Lib.hid hs
  have HT1 := Lib.hid (HT0.out.trans ht)
  have R1 := Lib.hid (ht.blk R0.out HNe.out (by decide))
  clear hs ht HC0 HS0 HT0 R0 kk
  refine Lib.hid ?_
  have HC1 := Lib.hid (wmatch_any w0 b _ m.u.m HW.out.m (by simp only [List.length_append, numB_len]; omega) W1 HS1.out)
  have MM := Lib.hid R1.out.cellsM.2.1
  go_wp2_with (first
    | (refine wpList_load_mid rfl 27 _ rfl B 1 rfl (cl m.u.m) _ MM.out Tryd.underlying27 rfl infoCube ?_)
    | (go_at_call 42; refine HC1.out.mono ?_; rintro e W2 ⟨rfl, hs, ht⟩; refine Hid.out ?_))
  have HS2 := Lib.hid hs
  have HT2 := Lib.hid (HT1.out.trans ht)
  have R2 := Lib.hid (ht.blk R1.out HNe.out (by decide))
  clear hs ht HC1 HS1 HT1 R1 MM
  refine Lib.hid ?_
  have HC2 := Lib.hid (number_any w0 b _ m.u.p HG.out.2.1.1 (by have := HG.out.2.1.2; omega) 2 (by decide) (by simp only [List.length_append, numB_len, cubeN_len]; omega) W2 HS2.out)
  have kk := R2.out.cellsM.2.2.1
  go_wp2_with (go_at_call 20; refine HC2.out.mono ?_; rintro e W3 ⟨rfl, hs, ht⟩; refine Hid.out ?_)
  have HS3 := Lib.hid hs
  have HT3 := Lib.hid (HT2.out.trans ht)
  have R3 := Lib.hid (ht.blk R2.out HNe.out (by decide))
  clear hs ht HC2 HS2 HT2 R2 kk
  refine Lib.hid ?_
  have HC3 := Lib.hid (number_any w0 b _ m.u.idle HG.out.2.2.1.1 (by have := HG.out.2.2.1.2; omega) 4 (by decide) (by simp only [List.length_append, numB_len, cubeN_len]; omega) W3 HS3.out)
  have kk := R3.out.cellsM.2.2.2.2.1
  go_wp2_with (go_at_call 20; refine HC3.out.mono ?_; rintro e W4 ⟨rfl, hs, ht⟩; refine Hid.out ?_)
  have HS4 := Lib.hid hs
  have HT4 := Lib.hid (HT3.out.trans ht)
  have R4 := Lib.hid (ht.blk R3.out HNe.out (by decide))
  clear hs ht HC3 HS3 HT3 R3 kk
  refine Lib.hid ?_
  have HC4 := Lib.hid (number_any w0 b _ m.u.hard HG.out.2.2.2.1.1 (by have := HG.out.2.2.2.1.2; omega) 4 (by decide) (by simp only [List.length_append, numB_len, cubeN_len]; omega) W4 HS4.out)
  have kk := R4.out.cellsM.2.2.2.2.2.1
  go_wp2_with (go_at_call 20; refine HC4.out.mono ?_; rintro e W5 ⟨rfl, hs, ht⟩; refine Hid.out ?_)
  have HS5 := Lib.hid hs
  have HT5 := Lib.hid (HT4.out.trans ht)
  have R5 := Lib.hid (ht.blk R4.out HNe.out (by decide))
  clear hs ht HC4 HS4 HT4 R4 kk
  refine Lib.hid ?_
  have HC5 := Lib.hid (number_any w0 b _ m.u.owner HG.out.2.2.2.2.1 (by have := HG.out.2.2.2.2.2; omega) 1 (by decide) (by simp only [List.length_append, numB_len, cubeN_len]; omega) W5 HS5.out)
  have kk := R5.out.cellsM.2.2.2.2.2.2.1
  go_wp2_with (go_at_call 20; refine HC5.out.mono ?_; rintro e W6 ⟨rfl, hs, ht⟩; refine Hid.out ?_)
  have HS6 := Lib.hid hs
  have HT6 := Lib.hid (HT5.out.trans ht)
  have R6 := Lib.hid (ht.blk R5.out HNe.out (by decide))
  clear hs ht HC5 HS5 HT5 R5 kk
  refine Lib.hid ?_
  have HC6 := Lib.hid (wflag_any w0 b _ m.u.chk (by simp only [List.length_append, numB_len, cubeN_len]; omega) W6 HS6.out)
  have kk := R6.out.cellsM.2.2.2.2.2.2.2
  go_wp2_with (go_at_call 43; refine HC6.out.mono ?_; rintro e W7 ⟨rfl, hs, ht⟩; refine Hid.out ?_)
  have HS7 := Lib.hid hs
  have HT7 := Lib.hid (HT6.out.trans ht)
  have R7 := Lib.hid (ht.blk R6.out HNe.out (by decide))
  clear hs ht HC6 HS6 HT6 R6 kk
  refine Lib.hid ?_
  have HC7 := Lib.hid (wacts_any w0 b _ (.slice m.q m.n m.c) m.u.acts HF.out.2 (by simp only [List.length_append, numB_len, cubeN_len]; have := HF.out.2.1; omega) W7 HI.out HS7.out)
  have kk := R7.out.cellsM.2.2.2.1
  go_wp2_with (go_at_call 44; refine HC7.out.mono ?_; rintro e W8 ⟨rfl, hs, ht⟩; refine Hid.out ?_)
  have HS8 := Lib.hid hs
  have HT8 := Lib.hid (HT7.out.trans ht)
  clear hs ht HC7 HS7 HT7 R7 kk
  refine Lib.hid ?_
  go_wp2_with fail
  go_end0
  refine ⟨rfl, ?_, HT8.out⟩
  have := HS8.out
  unfold encM modN
  simp only [encN, encN_app, List.append_assoc, List.append_nil] at this ⊢
  exact this

/-- a rule whose numbers fit -/
def FitRu (u : Ru) : Prop := FitN (ruleN u) ∧ FitA u.acts
theorem rule_rng {m : Ru} (h : FitN (ruleN m)) : (0 ≤ m.p ∧ m.p < 65536) ∧ (0 ≤ m.idle ∧ m.idle < 4294967296) ∧ (0 ≤ m.hard ∧ m.hard < 4294967296) ∧ (0 ≤ m.owner ∧ m.owner < 256) ∧ (0 ≤ m.hits ∧ m.hits < 18446744073709551616) ∧ (0 ≤ m.quiet ∧ m.quiet < 18446744073709551616) ∧ (0 ≤ m.age ∧ m.age < 18446744073709551616) := by
  have h1 := h (2, m.p) (by simp [ruleN])
  have h2 := h (4, m.idle) (by simp [ruleN])
  have h3 := h (4, m.hard) (by simp [ruleN])
  have h4 := h (1, m.owner) (by simp [ruleN])
  have h5 := h (8, m.hits) (by simp [ruleN])
  have h6 := h (8, m.quiet) (by simp [ruleN])
  have h7 := h (8, m.age) (by simp [ruleN])
  simp only [powB_1, powB_2, powB_4, powB_8] at h1 h2 h3 h4 h5 h6 h7
  exact ⟨h1, h2, h3, h4, h5, h6, h7⟩
/-- the counts of a rule, by place -/
def cnt (u : Ru) (j : Nat) : Int := if j = 0 then u.hits else if j = 1 then u.quiet else u.age
theorem builtCnt (u : Ru) : Tryd.prog.built 99 [(0, .int .i64 u.hits), (1, .int .i64 u.quiet), (2, .int .i64 u.age)] = some #[.int .i64 u.hits, .int .i64 u.quiet, .int .i64 u.age] := by kernel_rfl
theorem idxCnt (u : Ru) (w : World) : ∀ j : Nat, j < 3 → (Instr.index 99 (.agg #[.int .i64 u.hits, .int .i64 u.quiet, .int .i64 u.age]) (.int .i64 (j : Int))).run Tryd.prog w = .ok (.int .i64 (cnt u j)) w
  | 0, _ => by kernel_rfl
  | 1, _ => by kernel_rfl
  | 2, _ => by kernel_rfl
  | j + 3, h => by omega
theorem buildCnt {ops : Array Oper} {rest : List Oper} {o : Oper} {a : Act} {w : World} {Q : Exit → Act → World → Prop} (hg : o.guard = none) (x0 x1 x2 : Operand) (ho : o.op = .build 99 #[(0, x0), (1, x1), (2, x2)]) (u : Ru)
    (h0 : a.eval x0 = .int .i64 u.hits) (h1 : a.eval x1 = .int .i64 u.quiet) (h2 : a.eval x2 = .int .i64 u.age)
    (h : wpList Tryd.prog ops Q rest (a.put o.dst (.agg #[.int .i64 u.hits, .int .i64 u.quiet, .int .i64 u.age])) w) : wpList Tryd.prog ops Q (o :: rest) a w := by
  have e : ((#[(0, x0), (1, x1), (2, x2)] : Array (Nat × Operand)).map fun (p : Nat × Operand) => (p.1, a.eval p.2)).toList = [(0, .int .i64 u.hits), (1, .int .i64 u.quiet), (2, .int .i64 u.age)] := by simp [h0, h1, h2]
  have e' := congrArg (Tryd.prog.built 99) e
  rw [builtCnt] at e'
  refine wpList_build hg 99 _ ho (by rw [e']; rfl) ?_
  rw [e']
  exact h
theorem cnt_rng {u : Ru} (h : FitN (ruleN u)) (j : Nat) : 0 ≤ cnt u j ∧ cnt u j < 18446744073709551616 := by
  obtain ⟨_, _, _, _, h5, h6, h7⟩ := rule_rng h
  unfold cnt
  split
  · exact h5
  · split
    · exact h6
    · exact h7

set_option maxHeartbeats 4000000 in
theorem wrule_any (w0 : World) (b : Nat) (l : List Int) (m : Rm) (hw : WfR m.u) (hf : FitRu m.u) (hlen : l.length + 10000 ≤ 1000000000) (w : World) (hi : InA m w0) (hs : WrS w0 b l w) :
    Calls Tryd.prog 45 #[.pointer (some ⟨b, 0, none⟩), .agg (rca m)] w (WrRet w0 b l (encR m.u) w) := by
  have HS0 := Lib.hid (hs.alloc (.cells (rca m) 65))
  have HT0 := Lib.hid (WStep.alloc hs (.cells (rca m) 65))
  have R0 := Lib.hid (Blk.new w (rca m) 65)
  have HNe := Lib.hid (show w.heap.size ≠ b by have := hs.lt; omega)
  have HW := Lib.hid hw
  have HF := Lib.hid hf
  have HI := Lib.hid hi
  have HG := Lib.hid (rule_rng hf.1)
  clear hs hw hf hi
  go_enter Tryd.func45, Tryd.ntmps45
  go_upto_region 1 with fail
  generalize hW0 : w.alloc (.cells (rca m) 65) = W0 at *
  generalize hB : w.heap.size = B at *
  have HC0 := Lib.hid (wmatch_any w0 b l m.u.m HW.out.m (by omega) W0 HS0.out)
  have MM := Lib.hid R0.out.cellsR.1
  go_wp2_with (first
    | (refine wpList_load_mid rfl 27 _ rfl B 0 rfl (cl m.u.m) _ MM.out Tryd.underlying27 rfl infoCube ?_)
    | (go_at_call 42; refine HC0.out.mono ?_; rintro e W1 ⟨rfl, hs, ht⟩; refine Hid.out ?_))
  have HS1 := Lib.hid hs
  have HT1 := Lib.hid (HT0.out.trans ht)
  have R1 := Lib.hid (ht.blk R0.out HNe.out (by decide))
  clear hs ht HC0 HS0 HT0 R0 MM
  refine Lib.hid ?_
  have HC1 := Lib.hid (number_any w0 b _ m.u.p HG.out.1.1 (by have := HG.out.1.2; omega) 2 (by decide) (by simp only [List.length_append, cubeN_len]; omega) W1 HS1.out)
  have kk := R1.out.cellsR.2.1
  go_wp2_with (go_at_call 20; refine HC1.out.mono ?_; rintro e W2 ⟨rfl, hs, ht⟩; refine Hid.out ?_)
  have HS2 := Lib.hid hs
  have HT2 := Lib.hid (HT1.out.trans ht)
  have R2 := Lib.hid (ht.blk R1.out HNe.out (by decide))
  clear hs ht HC1 HS1 HT1 R1 kk
  refine Lib.hid ?_
  have HC2 := Lib.hid (number_any w0 b _ m.u.idle HG.out.2.1.1 (by have := HG.out.2.1.2; omega) 4 (by decide) (by simp only [List.length_append, numB_len, cubeN_len]; omega) W2 HS2.out)
  have kk := R2.out.cellsR.2.2.2.1
  go_wp2_with (go_at_call 20; refine HC2.out.mono ?_; rintro e W3 ⟨rfl, hs, ht⟩; refine Hid.out ?_)
  have HS3 := Lib.hid hs
  have HT3 := Lib.hid (HT2.out.trans ht)
  have R3 := Lib.hid (ht.blk R2.out HNe.out (by decide))
  clear hs ht HC2 HS2 HT2 R2 kk
  refine Lib.hid ?_
  have HC3 := Lib.hid (number_any w0 b _ m.u.hard HG.out.2.2.1.1 (by have := HG.out.2.2.1.2; omega) 4 (by decide) (by simp only [List.length_append, numB_len, cubeN_len]; omega) W3 HS3.out)
  have kk := R3.out.cellsR.2.2.2.2.1
  go_wp2_with (go_at_call 20; refine HC3.out.mono ?_; rintro e W4 ⟨rfl, hs, ht⟩; refine Hid.out ?_)
  have HS4 := Lib.hid hs
  have HT4 := Lib.hid (HT3.out.trans ht)
  have R4 := Lib.hid (ht.blk R3.out HNe.out (by decide))
  clear hs ht HC3 HS3 HT3 R3 kk
  refine Lib.hid ?_
  have HC4 := Lib.hid (number_any w0 b _ m.u.owner HG.out.2.2.2.1.1 (by have := HG.out.2.2.2.1.2; omega) 1 (by decide) (by simp only [List.length_append, numB_len, cubeN_len]; omega) W4 HS4.out)
  have kk := R4.out.cellsR.2.2.2.2.2.1
  go_wp2_with (go_at_call 20; refine HC4.out.mono ?_; rintro e W5 ⟨rfl, hs, ht⟩; refine Hid.out ?_)
  have HS5 := Lib.hid hs
  have HT5 := Lib.hid (HT4.out.trans ht)
  have R5 := Lib.hid (ht.blk R4.out HNe.out (by decide))
  clear hs ht HC4 HS4 HT4 R4 kk
  refine Lib.hid ?_
  obtain ⟨_, _, _, _, _, _, kh, kq, ka⟩ := R5.out.cellsR
  obtain ⟨Y, hY⟩ : ∃ Y, Y = l ++ encN (cubeN m.u.m) ++ numB 2 m.u.p ++ numB 4 m.u.idle ++ numB 4 m.u.hard ++ numB 1 m.u.owner := ⟨_, rfl⟩
  rw [← hY] at HS5
  have hYl : Y.length + 9700 ≤ 1000000000 := by rw [hY]; simp only [List.length_append, numB_len, cubeN_len]; omega
  have HY := Lib.hid hY
  clear hY
  go_wp2_with (refine buildCnt rfl _ _ _ rfl m.u rfl rfl rfl ?_)
  clear kh kq ka
  go_loopg [33] 3 (fun k i wr => ∃ r : Nat, r + k = 3 ∧ i = .int .i64 r ∧ WrS w0 b (Y ++ encN ((List.range r).map fun j => (8, cnt m.u j))) wr ∧ WStep b w wr ∧ Blk B (rca m) 65 wr)
  case atStart => exact ⟨0, by omega, rfl, by show WrS w0 b (Y ++ []) W5; rw [List.append_nil]; exact HS5.out, HT5.out, R5.out⟩
  case round =>
    clear HS5 HT5 R5
    obtain ⟨r, hr, rfl, hs, ht, hR⟩ := hrel
    have HS := Lib.hid hs
    have HT := Lib.hid ht
    have R := Lib.hid hR
    clear hs ht hR
    by_cases hlt : r < 3
    · have hltI : (r : Int) < 3 := by omega
      have hidx := idxCnt m.u wr r hlt
      have HC := Lib.hid (number_any w0 b _ (cnt m.u r) (cnt_rng HF.out.1 r).1 (cnt_rng HF.out.1 r).2 8 (Nat.le_refl _) (by rw [List.length_append, rangeN_len]; omega) wr HS.out)
      go_wp2_with (go_at_call 20; refine HC.out.mono ?_; rintro e w1 ⟨rfl, hs, ht⟩; refine Hid.out ?_)
      have HS1 := Lib.hid hs
      have HT1 := Lib.hid (HT.out.trans ht)
      have R1 := Lib.hid (ht.blk R.out HNe.out (by decide))
      clear hs ht HC HS HT R hidx
      refine Lib.hid ?_
      go_wp2_with fail
      go_roundg (3 - (r + 1))
      case measure => omega
      case rel => exact ⟨r + 1, by omega, by go_num, by rw [rangeN_snoc, ← List.append_assoc]; exact HS1.out, HT1.out, R1.out⟩
    · have hltI : ¬ (r : Int) < 3 := by omega
      obtain rfl : r = 3 := by omega
      obtain ⟨_, _, ks, _⟩ := R.out.cellsR
      have HC := Lib.hid (wacts_any w0 b _ (.slice m.q m.n m.c) m.u.acts HF.out.2 (by rw [List.length_append, rangeN_len]; have := HF.out.2.1; omega) wr HI.out HS.out)
      go_wp2_with (go_at_call 44; refine HC.out.mono ?_; rintro e w1 ⟨rfl, hs, ht⟩)
      go_end0
      refine ⟨rfl, ?_, HT.out.trans ht⟩
      rw [HY.out] at hs
      have e3 : encN ((List.range 3).map fun j => (8, cnt m.u j)) = numB 8 m.u.hits ++ (numB 8 m.u.quiet ++ (numB 8 m.u.age ++ [])) := rfl
      rw [e3] at hs
      unfold encR ruleN
      simp only [encN, encN_app, List.append_assoc, List.append_nil] at hs ⊢
      exact hs

theorem encR_len (u : Ru) (h : u.acts.length ≤ 255) : (encR u).length ≤ 3100 := by
  have h1 := encA_len u.acts
  have h2 : (encN (ruleN u)).length = 227 := by
    unfold ruleN
    rw [encN_app, List.length_append, cubeN_len]
    show 192 + (numB 2 u.p ++ (numB 4 u.idle ++ (numB 4 u.hard ++ (numB 1 u.owner ++ (numB 8 u.hits ++ (numB 8 u.quiet ++ (numB 8 u.age ++ []))))))).length = _
    simp only [List.length_append, numB_len, List.length_nil]
  unfold encR
  rw [List.length_append]
  omega
set_option maxHeartbeats 2000000 in
theorem wrules_any (w0 : World) (b : Nat) (l : List Int) (v : Value) (L : List Rm) (hw : WfRL L) (hf : ∀ x ∈ L, FitRu x.u) (hL : L.length ≤ 65535) (hlen : l.length ≤ 10000) (w : World) (hl : RLies v L w0) (hs : WrS w0 b l w) :
    Calls Tryd.prog 23 #[.pointer (some ⟨b, 0, none⟩), v] w (WrRet w0 b l (numB 2 (L.length : Int) ++ (L.map (·.u)).flatMap encR) w) := by
  obtain ⟨p, cap, rfl⟩ := hl.1.form
  have HL := Lib.hid hl
  have HF := Lib.hid hf
  have HW := Lib.hid hw
  have HC := Lib.hid (number_any w0 b l (L.length : Int) (by omega) (by omega) 2 (by decide) (by omega) w hs)
  clear hl hf hs hw
  go_enter Tryd.func23, Tryd.ntmps23
  go_wp2_with (go_at_call 20; refine HC.out.mono ?_; rintro e w1 ⟨rfl, hs, ht⟩; refine Hid.out ?_)
  have HS := Lib.hid hs
  have HT := Lib.hid ht
  clear hs ht HC
  refine Lib.hid ?_
  go_wp2_with fail
  go_loopg [12] L.length (fun k i wr => ∃ r : Nat, r + k = L.length ∧ i = .int .i64 r ∧ WrS w0 b (l ++ numB 2 (L.length : Int) ++ ((L.map (·.u)).take r).flatMap encR) wr ∧ WStep b w wr)
  case atStart => exact ⟨0, by omega, rfl, by show WrS w0 b (l ++ numB 2 (L.length : Int) ++ []) w1; rw [List.append_nil]; exact HS.out, HT.out⟩
  case round =>
    clear HS HT
    obtain ⟨r, hr, rfl, hs, ht⟩ := hrel
    have HS := Lib.hid hs
    have HT := Lib.hid ht
    clear hs ht
    by_cases hlt : r < L.length
    · have hltI : (r : Int) < (L.length : Int) := by omega
      obtain ⟨x, hx⟩ := lt_some hlt
      have HX := Lib.hid hx
      obtain ⟨bb, o, rfl, hrg⟩ := (HL.out.below HS.out.kept).1.at hx
      have HR := Lib.hid hrg
      have hlx : (((L.map (·.u)).take r).flatMap encR).length ≤ r * 3100 := by
        have := flatM_le encR (c := 3100) ((L.map (·.u)).take r) fun u hu => by
          obtain ⟨y, hy, rfl⟩ := List.mem_map.1 (List.mem_of_mem_take hu)
          exact encR_len _ (HF.out y hy).2.1
        rw [List.length_take, List.length_map, Nat.min_eq_left (by omega)] at this
        exact this
      obtain ⟨Y, hY⟩ : ∃ Y, Y = l ++ numB 2 (L.length : Int) ++ ((L.map (·.u)).take r).flatMap encR := ⟨_, rfl⟩
      have hYl : Y.length + 10000 ≤ 1000000000 := by rw [hY, List.length_append, List.length_append, numB_len]; omega
      rw [← hY] at HS
      have HY := Lib.hid (show l ++ numB 2 (L.length : Int) ++ (((L.map (·.u)).take (r + 1)).flatMap encR) = Y ++ encR x.u by rw [flatM_snoc encR (get_map hx), ← List.append_assoc, ← hY])
      clear hrg hx hY hlx
      go_upto_region 4 with (first
        | (refine wpList_load_mid rfl 65 _ rfl bb (o + r * 32) rfl (rcl x) _ HR.out Tryd.underlying65 rfl infoR ?_)
        | (refine wpList_store_row rfl 65 _ _ rfl wr.heap.size (rca x) rfl rfl 65 _ (heap_alloc_new _ _) (by kernel_rfl) rfl (rca_one _) ?_; rw [World.setRow_alloc_new]))
      have HS1 := Lib.hid (HS.out.alloc (.cells (rca x) 65))
      have HT1 := Lib.hid (HT.out.trans (WStep.alloc HS.out (.cells (rca x) 65)))
      have R1 := Lib.hid (Blk.new wr (rca x) 65)
      clear HS HT HR
      generalize wr.alloc (.cells (rca x) 65) = W1 at *
      generalize wr.heap.size = B at *
      have HC1 := Lib.hid (wrule_any w0 b Y x (HW.out x (List.mem_of_getElem? HX.out)) (HF.out x (List.mem_of_getElem? HX.out)) hYl W1 (HL.out.2 x (List.mem_of_getElem? HX.out)) HS1.out)
      go_wp2_with (first
        | (refine wpList_load_row rfl 65 _ rfl B rfl 65 (rca x) (0, 0) _ R1.out Tryd.underlying65 rfl infoR ?_)
        | (go_at_call 45; refine HC1.out.mono ?_; rintro e W2 ⟨rfl, hs, ht⟩; refine Hid.out ?_))
      have HS2 := Lib.hid hs
      have HT2 := Lib.hid (HT1.out.trans ht)
      clear hs ht HC1 HS1 HT1 R1
      refine Lib.hid ?_
      go_wp2_with fail
      go_roundg (L.length - (r + 1))
      case measure => omega
      case rel => exact ⟨r + 1, by omega, by go_num, by rw [HY.out]; exact HS2.out, HT2.out⟩
    · have hltI : ¬ (r : Int) < (L.length : Int) := by omega
      obtain rfl : r = L.length := by omega
      go_wp2_with fail
      go_end0
      refine ⟨rfl, ?_, HT.out⟩
      have := HS.out
      rw [List.take_of_length_le (by rw [List.length_map]; exact Nat.le_refl _), List.append_assoc] at this
      exact this
end Go.Proofs.YtndgbgolmpoepaaDoor
