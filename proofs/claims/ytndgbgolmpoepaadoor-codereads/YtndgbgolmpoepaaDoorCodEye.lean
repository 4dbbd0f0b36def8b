/-
  The reference's eye on bytes: a box of the bytes, a place in them, whether there were too few. Its Get.
-/
import Derived.Test.YtndgbgolmpoepaaDoorCodEq
import Derived.Test.YtndgbgolmpoepaaDoorCodRd
namespace Go.Proofs.YtndgbgolmpoepaaDoor
set_option maxRecDepth 20000
open Go.RowKit

/-- the eye on the bytes l: what is still to be read of them, or too few -/
def EyS (w0 : World) (b : Nat) (p : Option Addr) (c : Nat) (l : List Int) (st : Sta) (W : World) : Prop :=
  ∃ (k : Nat) (sh : Bool), Blk b #[.slice p l.length c, .int .i64 (k : Int), .bool sh] 76 W ∧ k ≤ l.length ∧ st = (if sh = true then ([], true) else (l.drop k, false)) ∧ Below w0.heap.size w0 W ∧ w0.heap.size ≤ b
def EyRet (w0 : World) (b : Nat) (p : Option Addr) (c : Nat) (l : List Int) (w : World) (v : Value) (st : Sta) (e : Ending) (w' : World) : Prop := e = .returned v ∧ EyS w0 b p c l st w' ∧ RStep b w w'
section
variable {w0 W W' : World} {b c : Nat} {p : Option Addr} {l : List Int} {st : Sta}
theorem EyS.lt (h : EyS w0 b p c l st W) : b < W.heap.size := by obtain ⟨k, sh, h1, _⟩ := h; exact h1.lt
theorem EyS.kept (h : EyS w0 b p c l st W) : Below w0.heap.size w0 W := by obtain ⟨k, sh, _, _, _, h4, _⟩ := h; exact h4
theorem EyS.ge (h : EyS w0 b p c l st W) : w0.heap.size ≤ b := by obtain ⟨k, sh, _, _, _, _, h5⟩ := h; exact h5
theorem EyS.byte (h : EyS w0 b p c l st W) (hb : ByL l) : ByL st.1 := by
  obtain ⟨k, sh, _, _, rfl, _⟩ := h
  cases sh
  · exact hb.drop k
  · exact fun x hx => by cases hx
theorem EyS.below (h : EyS w0 b p c l st W) (hb : Below W.heap.size W W') : EyS w0 b p c l st W' := by
  have hl := h.lt
  obtain ⟨k, sh, h1, h2, h3, h4, h5⟩ := h
  exact ⟨k, sh, h1.below hb, h2, h3, h4.trans (hb.mono (by omega)), h5⟩
theorem EyS.short (h : EyS w0 b p c l st W) : W.cell? ⟨b, 2, none⟩ = some (.bool st.2) := by
  obtain ⟨k, sh, h1, _, rfl, _⟩ := h
  have := (cell_of_row W b 2 _ _ _ h1).trans (rfl : _ = some (Value.bool sh))
  cases sh <;> exact this
end
/-- the eye's box in a world that has new memory alone -/
def EyK (w : World) (b : Nat) (p : Option Addr) (c : Nat) (l : List Int) (k : Nat) (sh : Bool) (W : World) : Prop :=
  Blk b #[.slice p l.length c, .int .i64 (k : Int), .bool sh] 76 W ∧ KLies KB (.slice p l.length c) l W ∧ Below w.heap.size w W ∧ b < w.heap.size
theorem EyK.below {w W W' : World} {b c k : Nat} {p : Option Addr} {l : List Int} {sh : Bool} (h : EyK w b p c l k sh W) (hb : Below W.heap.size W W') : EyK w b p c l k sh W' :=
  ⟨h.1.below hb, h.2.1.below okB hb, h.2.2.1.trans (hb.mono h.2.2.1.size), h.2.2.2⟩
theorem EyK.step {w W : World} {b c k : Nat} {p : Option Addr} {l : List Int} {sh : Bool} (h : EyK w b p c l k sh W) : RStep b w W := .of h.2.2.1 (Nat.le_of_lt h.2.2.2)
set_option maxRecDepth 100000 in
set_option maxHeartbeats 4000000 in
theorem eget_any (w0 : World) (b : Nat) (p : Option Addr) (c : Nat) (l : List Int) (st : Sta) (s : Nat) (hs0 : 0 < s) (hs8 : s ≤ 8) (hb : ByL l) (hm : l.length ≤ 20000) (hl : KLies KB (.slice p l.length c) l w0) (w : World) (h : EyS w0 b p c l st w) :
    Calls Tryd.prog 38 #[.pointer (some ⟨b, 0, none⟩), .int .i64 (s : Int)] w (EyRet w0 b p c l w (.int .u64 (gN s st).1) (gN s st).2) := by
  have hlt := h.lt
  obtain ⟨k, sh, hB, hk, hst, hkp, hg⟩ := h
  have K0 := Lib.hid (show EyK w b p c l k sh w from ⟨hB, hl.below okB hkp, Below.refl _ _, hlt⟩)
  have HB := Lib.hid hb
  have HK := Lib.hid (And.intro hkp hg)
  have HST := Lib.hid hst
  have c0 : w.cell? ⟨b, 0, none⟩ = some (.slice p l.length c) := (cell_of_row w b 0 _ _ _ hB).trans rfl
  have c1 : w.cell? ⟨b, 1, none⟩ = some (.int .i64 (k : Int)) := (cell_of_row w b 1 _ _ _ hB).trans rfl
  have c2 : w.cell? ⟨b, 2, none⟩ = some (.bool sh) := (cell_of_row w b 2 _ _ _ hB).trans rfl
  obtain ⟨N, hN⟩ : ∃ N, N = l.length := ⟨_, rfl⟩
  rw [← hN] at c0 hm hk
  have HN := Lib.hid hN
  have HKN := Lib.hid hk
  clear hB hb hkp hg hst hl hN hlt
  have hk0 : (0 : Int) ≤ (k : Int) := by omega
  have hkI : (k : Int) ≤ 20000 := by omega
  have hsI : (s : Int) ≤ 8 := by omega
  have hsI0 : (0 : Int) ≤ (s : Int) := by omega
  have hNI : (N : Int) ≤ 20000 := by omega
  cases sh
  case true =>
    have HG := Lib.hid (show gN s st = (0, ([], true)) by rw [HST.out]; unfold gN; exact if_pos hs0)
    rw [HG.out]
    go_enter Tryd.func38, Tryd.ntmps38
    go_upto_region 1 with fail
    go_quiet (fail)
    have K1 := Lib.hid (K0.out.below (belowDrewN w nq))
    clear K0 c0 c1 c2
    generalize w.drewN nq = V at *
    go_wp2_with (refine storeCell rfl 4 _ _ rfl b 2 (.bool true) rfl rfl rfl (K1.out.1.there (by simp)) infoBo ?_; refine Hid.out ?_)
    have R2 := Lib.hid (show Blk b #[.slice p l.length c, .int .i64 (k : Int), .bool true] 76 (V.setCell ⟨b, 2, none⟩ (.bool true)) by simpa using K1.out.1.one (k := 2) (.bool true))
    have T2 := Lib.hid (K1.out.step.set 2 (.bool true))
    clear K1
    generalize V.setCell ⟨b, 2, none⟩ (.bool true) = W2 at *
    refine Lib.hid ?_
    go_wp2_with fail
    go_ret
    exact ⟨rfl, ⟨k, true, R2.out, by rw [← HN.out]; exact HKN.out, rfl, HK.out.1.trans (T2.out.below.mono HK.out.2), HK.out.2⟩, T2.out⟩
  by_cases hsN : N < k + s
  · have hcI : (N : Int) < (k : Int) + (s : Int) := by omega
    have HG := Lib.hid (show gN s st = (0, ([], true)) by rw [HST.out]; unfold gN; exact if_pos (by show (l.drop k).length < s; rw [List.length_drop, ← HN.out]; omega))
    rw [HG.out]
    go_enter Tryd.func38, Tryd.ntmps38
    go_upto_region 1 with fail
    go_quiet (fail)
    have K1 := Lib.hid (K0.out.below (belowDrewN w nq))
    clear K0 c0 c1 c2
    generalize w.drewN nq = V at *
    go_wp2_with (refine storeCell rfl 4 _ _ rfl b 2 (.bool true) rfl rfl rfl (K1.out.1.there (by simp)) infoBo ?_; refine Hid.out ?_)
    have R2 := Lib.hid (show Blk b #[.slice p l.length c, .int .i64 (k : Int), .bool true] 76 (V.setCell ⟨b, 2, none⟩ (.bool true)) by simpa using K1.out.1.one (k := 2) (.bool true))
    have T2 := Lib.hid (K1.out.step.set 2 (.bool true))
    clear K1
    generalize V.setCell ⟨b, 2, none⟩ (.bool true) = W2 at *
    refine Lib.hid ?_
    go_wp2_with fail
    go_ret
    exact ⟨rfl, ⟨k, true, R2.out, by rw [← HN.out]; exact HKN.out, rfl, HK.out.1.trans (T2.out.below.mono HK.out.2), HK.out.2⟩, T2.out⟩
  have hcI : ¬ (N : Int) < (k : Int) + (s : Int) := by omega
  have HG := Lib.hid (show gN s st = (valB ((l.drop k).take s), (l.drop (k + s), false)) by
    rw [HST.out]; unfold gN; rw [if_neg (by show ¬ (l.drop k).length < s; rw [List.length_drop, ← HN.out]; omega)]
    show (_, ((l.drop k).drop s, false)) = _
    rw [List.drop_drop]
    rfl)
  rw [HG.out]
  have HLe := Lib.hid hsN
  go_enter Tryd.func38, Tryd.ntmps38
  go_upto_region 1 with fail
  go_quiet (fail)
  have K1 := Lib.hid (K0.out.below (belowDrewN w nq))
  clear K0 c0 c1 c2
  generalize w.drewN nq = V at *
  go_wp2_with fail
  go_loopg [6, 5] s (fun q i v wr => ∃ r : Nat, r + q = s ∧ i = .int .i64 r ∧ v = .int .u64 (valB ((l.drop k).take r)) ∧ EyK w b p c l k false wr)
  case atStart => exact ⟨0, by omega, rfl, rfl, K1.out⟩
  case round =>
    clear K1
    obtain ⟨r, hr, rfl, rfl, hk1⟩ := hrel
    have K1 := Lib.hid hk1
    have c0 : wr.cell? ⟨b, 0, none⟩ = some (.slice p N c) := by rw [HN.out]; exact (cell_of_row wr b 0 _ _ _ hk1.1).trans rfl
    have c1 : wr.cell? ⟨b, 1, none⟩ = some (.int .i64 (k : Int)) := (cell_of_row wr b 1 _ _ _ hk1.1).trans rfl
    clear hk1
    by_cases hlt : r < s
    · have hltI : (r : Int) < (s : Int) := by omega
      obtain ⟨x, hx⟩ := lt_some (l := l) (i := k + r) (by have := HLe.out; have := HN.out; omega)
      obtain ⟨bb, o, rfl, hc⟩ := cellB K1.out.2.1 hx
      have hx' : (l.drop k)[r]? = some x := by rw [List.getElem?_drop]; exact hx
      obtain ⟨hv0, hv1⟩ := valB_small (HB.out.drop k) (r := r) (by omega)
      have hxb := HB.out x (List.mem_of_getElem? hx)
      have HT := Lib.hid (valB_take hx')
      clear hx hx'
      generalize valB ((l.drop k).take r) = V at *
      have hxb0 := hxb.1
      have hxb1 := hxb.2
      have hrI : (k : Int) + (r : Int) < (N : Int) := by omega
      have hrI0 : (0 : Int) ≤ (k : Int) + (r : Int) := by omega
      have ht : ((k : Int) + (r : Int)).toNat = k + r := by omega
      go_upto_region 8 with fail
      go_quiet (fail)
      have K2 := Lib.hid (K1.out.below (belowDrewN wr nq))
      clear K1 c0 c1 hc
      generalize wr.drewN nq = W2 at *
      go_wp2_with fail
      go_roundg (s - (r + 1))
      case measure => omega
      case rel => exact ⟨r + 1, by omega, by go_num, by rw [HT.out], K2.out⟩
    · have hltI : ¬ (r : Int) < (s : Int) := by omega
      have HRS := Lib.hid (show r = s by omega)
      go_wp2_with (refine storeCell rfl 3 _ _ rfl b 1 (.int .i64 ((k : Int) + (s : Int))) rfl rfl rfl (K1.out.1.there (by simp)) (by kernel_rfl) ?_; refine Hid.out ?_)
      have R1 := Lib.hid (show Blk b #[.slice p l.length c, .int .i64 ((k + s : Nat) : Int), .bool false] 76 (wr.setCell ⟨b, 1, none⟩ (.int .i64 ((k : Int) + (s : Int)))) by simpa using K1.out.1.one (k := 1) (.int .i64 ((k : Int) + (s : Int))))
      have T1 := Lib.hid (K1.out.step.set 1 (.int .i64 ((k : Int) + (s : Int))))
      clear c0 c1
      generalize wr.setCell ⟨b, 1, none⟩ (.int .i64 ((k : Int) + (s : Int))) = W1 at *
      refine Lib.hid ?_
      go_wp2_with fail
      go_ret
      exact ⟨congrArg (fun t => Ending.returned (.int .u64 (valB (List.take t (List.drop k l))))) HRS.out, ⟨k + s, false, R1.out, by have := HLe.out; have := HN.out; omega, rfl, HK.out.1.trans (T1.out.below.mono HK.out.2), HK.out.2⟩, T1.out⟩
end Go.Proofs.YtndgbgolmpoepaaDoor
