/-
  The walk of the reference's Meet.
-/
import Derived.Test.YtioiecaklbifnaaDoorRefHas
import Derived.Lib.ConvBytes
namespace Go.Proofs.YtioiecaklbifnaaDoor
open Go.RowKit

/-- a row of bytes that a conversion has made: the text, and room behind it -/
def BufAt (g : Nat) (X : List UInt8) (W : World) : Prop := ∃ cs : Array Value, W.heap[g]? = some (.cells cs 5 (cs.size, cs.size + 1)) ∧ X.length ≤ cs.size ∧ ∀ (j : Nat) (c : UInt8), X[j]? = some c → cs[j]? = some (Value.int .u8 (c.toNat : Int))
section
variable {g : Nat} {X : List UInt8} {W W' : World}
theorem BufAt.lt (h : BufAt g X W) : g < W.heap.size := by obtain ⟨cs, h1, _⟩ := h; exact (Array.getElem?_eq_some_iff.1 h1).1
theorem BufAt.below (h : BufAt g X W) (hb : Below W.heap.size W W') : BufAt g X W' := by
  have hl := h.lt
  obtain ⟨cs, h1, h2⟩ := h
  exact ⟨cs, (hb.block g hl).trans h1, h2⟩
theorem BufAt.cell (h : BufAt g X W) {j : Nat} {c : UInt8} (hj : X[j]? = some c) : W.cell? ⟨g, j, none⟩ = some (.int .u8 (c.toNat : Int)) := by
  obtain ⟨cs, h1, _, h3⟩ := h
  rw [cell_of_row W g j cs _ _ h1, h3 j c hj]
theorem BufAt.frozen (h : BufAt g X W) {j : Nat} (hj : j < X.length) : W.frozen? ⟨g, j, none⟩ = false := by
  obtain ⟨cs, h1, h2, _⟩ := h
  simp only [World.frozen?, h1]
  simp; omega
theorem BufAt.set (h : BufAt g X W) (j : Nat) (c : UInt8) : BufAt g (X.set j c) (W.setCell ⟨g, j, none⟩ (.int .u8 (c.toNat : Int))) := by
  obtain ⟨cs, h1, h2, h3⟩ := h
  refine ⟨cs.setIfInBounds j (.int .u8 (c.toNat : Int)), ?_, by rw [List.length_set, Array.size_setIfInBounds]; exact h2, fun i d hi => ?_⟩
  · rw [Array.size_setIfInBounds]
    simp only [World.setCell, Array.getElem?_modify, h1]
    simp
  · rw [List.getElem?_set] at hi
    rw [Array.getElem?_setIfInBounds]
    by_cases e : j = i
    · subst e
      rw [if_pos rfl] at hi
      by_cases hl : j < X.length
      · rw [if_pos hl] at hi
        injection hi with hi
        subst hi
        rw [if_pos rfl, if_pos (by omega)]
      · rw [if_neg hl] at hi; cases hi
    · rw [if_neg e] at hi ⊢
      exact h3 i d hi
end
/-- '[]byte(s)' -/
theorem toBytes (X : List UInt8) (W : World) : ∃ (cap : Nat) (W' : World), (convert 9 56 (.string ⟨X.toArray⟩)).run Tryd.prog W = .ok (.slice (some ⟨W.heap.size, 0, none⟩) X.length cap) W' ∧ BufAt W.heap.size X W' ∧ Below W.heap.size W W' := by
  have hs : (⟨X.toArray⟩ : ByteArray).size = X.length := by show X.toArray.size = X.length; simp
  refine ⟨_, _, (Lib.run_convert_string_bytes W 9 56 5 ⟨X.toArray⟩ Tryd.underlying9 Tryd.underlying56 Tryd.underlying5).trans (by rw [hs]), ?_, ?_⟩
  · refine ⟨_, Lib.bytesWorld_at_new W _ _, ?_, fun j c hj => ?_⟩
    · unfold Lib.bytesCells
      rw [Array.size_append, Array.size_map]
      show X.length ≤ X.toArray.size + _
      simp
    · have hl : j < X.length := (List.getElem?_eq_some_iff.1 hj).1
      unfold Lib.bytesCells
      rw [Array.getElem?_append_left (by rw [Array.size_map]; show j < X.toArray.size; simpa using hl), Array.getElem?_map]
      show Option.map _ X.toArray[j]? = _
      rw [List.getElem?_toArray, hj]
      rfl
  · refine ⟨?_, ?_, ?_, by rw [Lib.bytesWorld_size]; omega, fun k hk => Lib.bytesWorld_at_old W _ _ k hk⟩ <;> rfl
/-- 'string(b)' of such a row -/
theorem conv_buf {g cap n : Nat} {X : List UInt8} {W : World} (h : BufAt g X W) (hn : n = X.length) : (convert 56 9 (.slice (some ⟨g, 0, none⟩) n cap)).run Tryd.prog W = .ok (.string ⟨X.toArray⟩) W := by
  subst hn
  refine run_convert_bytes_back W 56 9 5 ⟨g, 0, none⟩ cap X Tryd.underlying56 Tryd.underlying5 Tryd.underlying9 fun j hj => ?_
  rw [Addr.add_mid, Nat.zero_add]
  exact h.cell (List.getElem?_eq_getElem hj)
/-- two letters joined, if they can be -/
def mrg (x y : UInt8) : UInt8 := if x == 120 then y else x
def cmpt (x y : UInt8) : Bool := x == 120 || y == 120 || x == y
/-- the first letters joined -/
def mergeTo (X Y : List UInt8) (r : Nat) : List UInt8 := (List.range X.length).map fun i => if i < r then mrg (X.getD i 0) (Y.getD i 0) else X.getD i 0
theorem mergeTo_len (X Y : List UInt8) (r : Nat) : (mergeTo X Y r).length = X.length := by simp [mergeTo]
theorem mergeTo_at (X Y : List UInt8) (r i : Nat) (h : i < X.length) : (mergeTo X Y r)[i]? = some (if i < r then mrg (X.getD i 0) (Y.getD i 0) else X.getD i 0) := by simp [mergeTo, h]
theorem mergeTo_zero (X Y : List UInt8) : mergeTo X Y 0 = X := by
  apply List.ext_getElem?
  intro i
  by_cases h : i < X.length
  · rw [mergeTo_at X Y 0 i h, if_neg (by omega), getD_at h]
  · rw [List.getElem?_eq_none (by rw [mergeTo_len]; omega), List.getElem?_eq_none (by omega)]
theorem mergeTo_set (X Y : List UInt8) (r : Nat) (hx : (X.getD r 0 == 120) = true) : (mergeTo X Y r).set r (Y.getD r 0) = mergeTo X Y (r + 1) := by
  apply List.ext_getElem?
  intro i
  rw [List.getElem?_set]
  by_cases h : i < X.length
  · rw [mergeTo_at X Y (r + 1) i h]
    by_cases e : r = i
    · subst e
      rw [if_pos rfl, if_pos (by rw [mergeTo_len]; exact h), if_pos (by omega), mrg, hx]; rfl
    · rw [if_neg e, mergeTo_at X Y r i h]
      by_cases h2 : i < r
      · rw [if_pos h2, if_pos (by omega)]
      · rw [if_neg h2, if_neg (by omega)]
  · rw [List.getElem?_eq_none (l := mergeTo X Y (r + 1)) (by rw [mergeTo_len]; omega)]
    by_cases e : r = i
    · rw [if_pos e, if_neg (by rw [mergeTo_len]; omega)]
    · rw [if_neg e, List.getElem?_eq_none (by rw [mergeTo_len]; omega)]
theorem mergeTo_keep (X Y : List UInt8) (r : Nat) (hx : (X.getD r 0 == 120) = false) : mergeTo X Y r = mergeTo X Y (r + 1) := by
  apply List.ext_getElem?
  intro i
  by_cases h : i < X.length
  · rw [mergeTo_at X Y r i h, mergeTo_at X Y (r + 1) i h]
    by_cases e : i = r
    · subst e
      rw [if_neg (by omega), if_pos (by omega), mrg, hx]; rfl
    · by_cases h2 : i < r
      · rw [if_pos h2, if_pos (by omega)]
      · rw [if_neg h2, if_neg (by omega)]
  · rw [List.getElem?_eq_none (by rw [mergeTo_len]; omega), List.getElem?_eq_none (by rw [mergeTo_len]; omega)]
/-- what one letter comes to -/
theorem cmpt_cases (x y : UInt8) : ∃ i j : Int, i = (x.toNat : Int) ∧ j = (y.toNat : Int) ∧ (((i == 120) = true ∧ (x == 120) = true ∧ cmpt x y = true) ∨ ((i == 120) = false ∧ (x == 120) = false ∧ (j != 120) = false ∧ cmpt x y = true) ∨ ((i == 120) = false ∧ (x == 120) = false ∧ (j != 120) = true ∧ (i != j) = false ∧ cmpt x y = true) ∨ ((i == 120) = false ∧ (x == 120) = false ∧ (j != 120) = true ∧ (i != j) = true ∧ cmpt x y = false)) := by
  refine ⟨_, _, rfl, rfl, ?_⟩
  rw [bne, bne, u8_x, u8_x, u8_eq]
  unfold cmpt
  cases x == 120 <;> cases y == 120 <;> cases x == y <;> simp
theorem next_all {X Y : List UInt8} {r : Nat} (h : ∀ j, j < r → cmpt (X.getD j 0) (Y.getD j 0) = true) (hr : cmpt (X.getD r 0) (Y.getD r 0) = true) : ∀ j, j < r + 1 → cmpt (X.getD j 0) (Y.getD j 0) = true := fun j hj => by
  by_cases e : j = r
  · rw [e]; exact hr
  · exact h j (by omega)
/-- the rows of the reference's Meet -/
def RMeetS (w : World) (a b : Nat → Int) (W : World) : Prop := Blk w.heap.size (cc a) 26 W ∧ Blk (w.heap.size + 1) (cc b) 26 W ∧ Blk (w.heap.size + 1 + 1) #[Value.int IntKind.u64 0, Value.int IntKind.u64 0, Value.int IntKind.u64 0, Value.int IntKind.u64 0, Value.int IntKind.u64 0, Value.int IntKind.u64 0, Value.int IntKind.u64 0, Value.int IntKind.u64 0, Value.int IntKind.u64 0, Value.int IntKind.u64 0, Value.int IntKind.u64 0, Value.int IntKind.u64 0, Value.int IntKind.u64 0, Value.int IntKind.u64 0, Value.int IntKind.u64 0, Value.int IntKind.u64 0, Value.int IntKind.u64 0, Value.int IntKind.u64 0, Value.int IntKind.u64 0, Value.int IntKind.u64 0, Value.int IntKind.u64 0, Value.int IntKind.u64 0, Value.int IntKind.u64 0, Value.int IntKind.u64 0] 26 W ∧ Below w.heap.size w W
theorem RMeetS.below {w : World} {a b : Nat → Int} {W W' : World} (hb : Below W.heap.size W W') (s : RMeetS w a b W) : RMeetS w a b W' := ⟨s.1.below hb, s.2.1.below hb, s.2.2.1.below hb, s.2.2.2.trans (hb.mono s.2.2.2.size)⟩
theorem RMeetS.start (w : World) (a b : Nat → Int) : RMeetS w a b (((w.alloc (.cells (cc a) 26)).alloc (.cells (cc b) 26)).alloc (.cells #[Value.int IntKind.u64 0, Value.int IntKind.u64 0, Value.int IntKind.u64 0, Value.int IntKind.u64 0, Value.int IntKind.u64 0, Value.int IntKind.u64 0, Value.int IntKind.u64 0, Value.int IntKind.u64 0, Value.int IntKind.u64 0, Value.int IntKind.u64 0, Value.int IntKind.u64 0, Value.int IntKind.u64 0, Value.int IntKind.u64 0, Value.int IntKind.u64 0, Value.int IntKind.u64 0, Value.int IntKind.u64 0, Value.int IntKind.u64 0, Value.int IntKind.u64 0, Value.int IntKind.u64 0, Value.int IntKind.u64 0, Value.int IntKind.u64 0, Value.int IntKind.u64 0, Value.int IntKind.u64 0, Value.int IntKind.u64 0] 26)) :=
  ⟨((Blk.new w (cc a) 26).old _).old _, (Blk.new2 w _ (cc b) 26).old _, Blk.new3 w _ _ _ _, (below2 w _ _).alloc (by simp; omega) _⟩
theorem RMeetS.set {w : World} {a b : Nat → Int} {W : World} (s : RMeetS w a b W) {g : Nat} (hg : w.heap.size + 1 + 1 < g) (k : Nat) (v : Value) : RMeetS w a b (W.setCell ⟨g, k, none⟩ v) :=
  ⟨s.1.cother (by omega) _, s.2.1.cother (by omega) _, s.2.2.1.cother (by omega) _, s.2.2.2.setCell (by show w.heap.size ≤ g; omega) _⟩
set_option maxHeartbeats 1000000 in
theorem rmeet_unsound (a b : Nat → Int) (wa : Wf a) (wb : Wf b) (hs : (csnd a && csnd b) = false) (w : World) :
    Calls Tryd.prog 22 #[.agg (cc a), .agg (cc b)] w fun e w' => e = .returned (.tuple #[.agg (cc zh), .bool false]) ∧ Below w.heap.size w w' := by
  have S0 := Lib.hid (RMeetS.start w a b)
  have HT := Lib.hid fun W => rtext_any a wa W
  have HW := Lib.hid fun W => rtext_any b wb W
  clear wa wb
  generalize textTo a 12 = X at *
  generalize textTo b 12 = Y at *
  generalize csnd a = k0 at *
  generalize csnd b = k1 at *
  go_enter Tryd.func22, Tryd.ntmps22
  go_wp2_with (refine wpList_load_row rfl 26 _ rfl w.heap.size rfl 26 (cc a) (0, 0) _ S0.out.1 Tryd.underlying26 rfl (by kernel_rfl) ?_)
  refine (HT.out _).mono ?_
  rintro e w1 ⟨rfl, hw1⟩
  have S1 := Lib.hid (RMeetS.below hw1 S0.out)
  clear hw1 S0 HT
  go_wp2_with (refine wpList_load_row rfl 26 _ rfl (w.heap.size + 1) rfl 26 (cc b) (0, 0) _ S1.out.2.1 Tryd.underlying26 rfl (by kernel_rfl) ?_)
  refine (HW.out _).mono ?_
  rintro e w2 ⟨rfl, hw2⟩
  have S2 := Lib.hid (RMeetS.below hw2 S1.out)
  clear hw2 S1 HW
  cases k0
  · go_wp2_with (refine wpList_store_row rfl 26 _ _ rfl (w.heap.size + 1 + 1) #[Value.int IntKind.u64 0, Value.int IntKind.u64 0, Value.int IntKind.u64 0, Value.int IntKind.u64 0, Value.int IntKind.u64 0, Value.int IntKind.u64 0, Value.int IntKind.u64 0, Value.int IntKind.u64 0, Value.int IntKind.u64 0, Value.int IntKind.u64 0, Value.int IntKind.u64 0, Value.int IntKind.u64 0, Value.int IntKind.u64 0, Value.int IntKind.u64 0, Value.int IntKind.u64 0, Value.int IntKind.u64 0, Value.int IntKind.u64 0, Value.int IntKind.u64 0, Value.int IntKind.u64 0, Value.int IntKind.u64 0, Value.int IntKind.u64 0, Value.int IntKind.u64 0, Value.int IntKind.u64 0, Value.int IntKind.u64 0] rfl rfl 26 _ S2.out.2.2.1 (by kernel_rfl) rfl (by kernel_rfl) ?_)
    refine bodyPost_ret (v := .tuple #[.agg (cc zh), .bool false]) ?_ rfl ⟨rfl, below_setRow S2.out.2.2.2 (by omega) _⟩
    exact res_row Tryd.results22 (cs := cc zh) rfl rfl (S2.out.2.2.1.rset _) Tryd.underlying26 rfl (by kernel_rfl)
  · cases k1
    · go_wp2_with (refine wpList_store_row rfl 26 _ _ rfl (w.heap.size + 1 + 1) #[Value.int IntKind.u64 0, Value.int IntKind.u64 0, Value.int IntKind.u64 0, Value.int IntKind.u64 0, Value.int IntKind.u64 0, Value.int IntKind.u64 0, Value.int IntKind.u64 0, Value.int IntKind.u64 0, Value.int IntKind.u64 0, Value.int IntKind.u64 0, Value.int IntKind.u64 0, Value.int IntKind.u64 0, Value.int IntKind.u64 0, Value.int IntKind.u64 0, Value.int IntKind.u64 0, Value.int IntKind.u64 0, Value.int IntKind.u64 0, Value.int IntKind.u64 0, Value.int IntKind.u64 0, Value.int IntKind.u64 0, Value.int IntKind.u64 0, Value.int IntKind.u64 0, Value.int IntKind.u64 0, Value.int IntKind.u64 0] rfl rfl 26 _ S2.out.2.2.1 (by kernel_rfl) rfl (by kernel_rfl) ?_)
      refine bodyPost_ret (v := .tuple #[.agg (cc zh), .bool false]) ?_ rfl ⟨rfl, below_setRow S2.out.2.2.2 (by omega) _⟩
      exact res_row Tryd.results22 (cs := cc zh) rfl rfl (S2.out.2.2.1.rset _) Tryd.underlying26 rfl (by kernel_rfl)
    · exact absurd hs (by decide)
set_option maxHeartbeats 2000000 in
theorem rmeet_sound (a b m : Nat → Int) (y : Bool) (wa : Wf a) (wb : Wf b) (hsa : csnd a = true) (hsb : csnd b = true)
    (hno : ∀ r, r < 248 → cmpt ((textTo a 12).getD r 0) ((textTo b 12).getD r 0) = false → y = false ∧ cc m = cc zh)
    (hyes : (∀ r, r < 248 → cmpt ((textTo a 12).getD r 0) ((textTo b 12).getD r 0) = true) → y = true ∧ ∀ W, Calls Tryd.prog 38 #[.string ⟨(mergeTo (textTo a 12) (textTo b 12) 248).toArray⟩] W fun e w' => e = .returned (.agg (cc m)) ∧ Below W.heap.size W w')
    (w : World) :
    Calls Tryd.prog 22 #[.agg (cc a), .agg (cc b)] w fun e w' => e = .returned (.tuple #[.agg (cc m), .bool y]) ∧ Below w.heap.size w w' := by
  have S0 := Lib.hid (RMeetS.start w a b)
  have HT := Lib.hid fun W => rtext_any a wa W
  have HW := Lib.hid fun W => rtext_any b wb W
  have HLX := Lib.hid (text_len a)
  have HLY := Lib.hid (text_len b)
  have HNO := Lib.hid hno
  have HYS := Lib.hid hyes
  clear wa wb hno hyes
  rw [hsa] at HT
  rw [hsb] at HW
  clear hsa hsb
  generalize textTo a 12 = X at *
  generalize textTo b 12 = Y at *
  go_enter Tryd.func22, Tryd.ntmps22
  go_wp2_with (refine wpList_load_row rfl 26 _ rfl w.heap.size rfl 26 (cc a) (0, 0) _ S0.out.1 Tryd.underlying26 rfl (by kernel_rfl) ?_)
  refine (HT.out _).mono ?_
  rintro e w1 ⟨rfl, hw1⟩
  have S1 := Lib.hid (RMeetS.below hw1 S0.out)
  clear hw1 S0 HT
  go_wp2_with (refine wpList_load_row rfl 26 _ rfl (w.heap.size + 1) rfl 26 (cc b) (0, 0) _ S1.out.2.1 Tryd.underlying26 rfl (by kernel_rfl) ?_)
  refine (HW.out _).mono ?_
  rintro e w2 ⟨rfl, hw2⟩
  have S2 := Lib.hid (RMeetS.below hw2 S1.out)
  clear hw2 S1 HW
  obtain ⟨cap, W3, hconv, hbuf, hbel⟩ := toBytes X w2
  have hg : w.heap.size + 1 + 1 < w2.heap.size := S2.out.2.2.1.lt
  have S3 := Lib.hid (RMeetS.below hbel S2.out)
  have BF := Lib.hid hbuf
  clear S2 hbuf hbel
  go_wp2_with fail
  clear hconv
  generalize w2.heap.size = g at *
  go_loopg [11] 248 (fun gk i wr => ∃ r : Nat, r + gk = 248 ∧ i = .int .i64 r ∧ (∀ j, j < r → cmpt (X.getD j 0) (Y.getD j 0) = true) ∧ BufAt g (mergeTo X Y r) wr ∧ RMeetS w a b wr)
  case atStart => exact ⟨0, by omega, rfl, fun j h => absurd h (by omega), by rw [mergeTo_zero]; exact BF.out, S3.out⟩
  case round =>
    clear S3 BF
    obtain ⟨r, hr, rfl, hq, hbf, hS⟩ := hrel
    have HQ := Lib.hid hq
    have BF := Lib.hid hbf
    have HS := Lib.hid hS
    clear hq hbf hS
    by_cases hlt : r < 248
    · have hlen : r < X.length := by have := HLX.out; omega
      have hlenI : (r : Int) < (X.length : Int) := by omega
      have hdI : decide ((r : Int) < (X.length : Int)) = true := decide_eq_true hlenI
      have ix := idxText (getD_at hlen)
      have iy := idxText (getD_at (X := Y) (r := r) (by have := HLY.out; omega))
      obtain ⟨na, nb, ea, eb, hcs⟩ := cmpt_cases (X.getD r 0) (Y.getD r 0)
      rw [← ea] at ix
      rw [← eb] at iy
      have EB := Lib.hid eb
      clear ea eb
      rcases hcs with ⟨t1, tx, hc⟩ | ⟨t1, tx, t2, hc⟩ | ⟨t1, tx, t2, t3, hc⟩ | ⟨t1, tx, t2, t3, hc⟩
      · have HN := Lib.hid (mergeTo_set X Y r tx)
        have HQ1 := Lib.hid (next_all HQ.out hc)
        have k1 := BF.out.cell (mergeTo_at X Y r r hlen)
        have f1 := BF.out.frozen (j := r) (by rw [mergeTo_len]; exact hlen)
        have BF1 := Lib.hid (BF.out.set r (Y.getD r 0))
        rw [← EB.out, HN.out] at BF1
        have HS1 := Lib.hid (HS.out.set hg r (.int .u8 nb))
        clear tx hc HQ
        generalize (if r < r then mrg (X.getD r 0) (Y.getD r 0) else X.getD r 0) = old at *
        go_wp2
        clear k1 f1 t1 ix iy BF HS
        go_roundg (248 - (r + 1))
        case measure => omega
        case rel => exact ⟨r + 1, by omega, by go_num, HQ1.out, BF1.out, HS1.out⟩
      · have HQ1 := Lib.hid (next_all HQ.out hc)
        have HN := Lib.hid (mergeTo_keep X Y r tx)
        clear tx hc HQ
        go_wp2_with fail
        go_quiet (fail)
        have HS1 := Lib.hid (RMeetS.below (belowDrewN wr nq) HS.out)
        have BF1 := Lib.hid (BF.out.below (belowDrewN wr nq))
        rw [HN.out] at BF1
        go_wp2_with fail
        go_roundg (248 - (r + 1))
        case measure => omega
        case rel => exact ⟨r + 1, by omega, by go_num, HQ1.out, BF1.out, HS1.out⟩
      · have HQ1 := Lib.hid (next_all HQ.out hc)
        have HN := Lib.hid (mergeTo_keep X Y r tx)
        clear tx hc HQ
        go_wp2_with fail
        go_quiet (fail)
        have HS1 := Lib.hid (RMeetS.below (belowDrewN wr nq) HS.out)
        have BF1 := Lib.hid (BF.out.below (belowDrewN wr nq))
        rw [HN.out] at BF1
        go_wp2_with fail
        go_roundg (248 - (r + 1))
        case measure => omega
        case rel => exact ⟨r + 1, by omega, by go_num, HQ1.out, BF1.out, HS1.out⟩
      · have HR := Lib.hid (HNO.out r hlt hc)
        clear tx hc HQ
        go_wp2_with fail
        go_quiet (fail)
        have HS1 := Lib.hid (RMeetS.below (belowDrewN wr nq) HS.out)
        generalize wr.drewN nq = W4 at *
        go_wp2_with (refine wpList_store_row rfl 26 _ _ rfl (w.heap.size + 1 + 1) #[Value.int IntKind.u64 0, Value.int IntKind.u64 0, Value.int IntKind.u64 0, Value.int IntKind.u64 0, Value.int IntKind.u64 0, Value.int IntKind.u64 0, Value.int IntKind.u64 0, Value.int IntKind.u64 0, Value.int IntKind.u64 0, Value.int IntKind.u64 0, Value.int IntKind.u64 0, Value.int IntKind.u64 0, Value.int IntKind.u64 0, Value.int IntKind.u64 0, Value.int IntKind.u64 0, Value.int IntKind.u64 0, Value.int IntKind.u64 0, Value.int IntKind.u64 0, Value.int IntKind.u64 0, Value.int IntKind.u64 0, Value.int IntKind.u64 0, Value.int IntKind.u64 0, Value.int IntKind.u64 0, Value.int IntKind.u64 0] rfl rfl 26 _ HS1.out.2.2.1 (by kernel_rfl) rfl (by kernel_rfl) ?_)
        refine bodyPost_ret (v := .tuple #[.agg (cc zh), .bool false]) ?_ rfl ⟨by rw [HR.out.1, HR.out.2], below_setRow HS1.out.2.2.2 (by omega) _⟩
        exact res_row Tryd.results22 (cs := cc zh) rfl rfl (HS1.out.2.2.1.rset _) Tryd.underlying26 rfl (by kernel_rfl)
    · obtain rfl : r = 248 := by omega
      have hlenI : ¬ 248 < X.length := by have := HLX.out; omega
      have hdI : decide ((248 : Int) < (X.length : Int)) = false := decide_eq_false (by have := HLX.out; omega)
      obtain ⟨hy, hfr⟩ := HYS.out HQ.out
      have HFR := Lib.hid hfr
      have HYY := Lib.hid hy
      have hcv := conv_buf (cap := cap) BF.out (mergeTo_len X Y 248).symm
      clear hy hfr HQ
      go_wp2_with fail
      refine (HFR.out _).mono ?_
      rintro e w5 ⟨rfl, hw5⟩
      have HS1 := Lib.hid (RMeetS.below hw5 HS.out)
      clear hw5 HS BF HFR hcv
      go_wp2_with (refine wpList_store_row rfl 26 _ _ rfl (w.heap.size + 1 + 1) (cc m) rfl rfl 26 _ HS1.out.2.2.1 (by kernel_rfl) rfl (cc_one _) ?_)
      refine bodyPost_ret (v := .tuple #[.agg (cc m), .bool true]) ?_ rfl ⟨by rw [HYY.out], below_setRow HS1.out.2.2.2 (by omega) _⟩
      exact res_row Tryd.results22 rfl rfl (HS1.out.2.2.1.rset _) Tryd.underlying26 rfl (by kernel_rfl)
end Go.Proofs.YtioiecaklbifnaaDoor
