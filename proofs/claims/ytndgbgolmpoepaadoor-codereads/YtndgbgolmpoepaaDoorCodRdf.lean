/-
  The program's reader: rules, message.
-/
import Derived.Test.YtndgbgolmpoepaaDoorCodRde
import Derived.Test.YtndgbgolmpoepaaDoorCodSnd
namespace Go.Proofs.YtndgbgolmpoepaaDoor
set_option maxRecDepth 20000
open Go.RowKit

/-- rules of one's own, with their actions -/
def OwnRs (B : Nat) (v : Value) (L : List Rm) (W : World) : Prop := KOwns KR B v L W ∧ ∀ y ∈ L, OwnA B y W
theorem OwnRs.lies {B : Nat} {v : Value} {L : List Rm} {W : World} (h : OwnRs B v L W) : RLies v L W := ⟨h.1.lies okR, fun y hy => (h.2 y hy).inA⟩
def RdRules (w0 : World) (b : Nat) (w : World) (us : List Ru) (st : Sta) (e : Ending) (w' : World) : Prop := ∃ v L, e = .returned v ∧ L.map (·.u) = us ∧ OwnRs w.heap.size v L w' ∧ RdS w0 b st w' ∧ RStep b w w'
set_option maxHeartbeats 4000000 in
theorem rrules_read (w0 : World) (b : Nat) (st : Sta) (w : World) (h : RdS w0 b st w) :
    Calls Tryd.prog 61 #[.pointer (some ⟨b, 0, none⟩)] w (RdRules w0 b w (gRules st).1 (gRules st).2) := by
  have HC := Lib.hid (rnumber_small w0 b st 2 (by decide) w h)
  have HL := Lib.hid (show b < w.heap.size from h.lt)
  have hr := gN_rng (s := 2) h.byte
  rw [powB_2] at hr
  have HE := Lib.hid (show gRules st = gMany gRule (gN 2 st).1.toNat (gN 2 st).2 from rfl)
  clear h
  generalize gN 2 st = y at *
  obtain ⟨n, x⟩ := y
  simp only at HE HC hr
  obtain ⟨N, rfl⟩ := Int.eq_ofNat_of_zero_le hr.1
  have hN : N ≤ 65535 := by have := hr.2; omega
  simp only [Int.toNat_natCast] at HE
  clear hr
  rw [HE.out]
  clear HE
  go_enter Tryd.func61, Tryd.ntmps61
  go_wp2_with (go_at_call 58; refine HC.out.mono ?_; rintro e w1 ⟨rfl, hs, ht⟩; refine Hid.out ?_)
  have HS := Lib.hid hs
  have HT := Lib.hid ht
  clear hs ht HC
  refine Lib.hid ?_
  go_wp2_with fail
  go_loopg [3, 4] N (fun k lv i wr => ∃ (L : List Rm) (x' : Sta), L.length + k = N ∧ i = .int .i64 (k : Int) ∧ gMany gRule N x = (L.map (·.u) ++ (gMany gRule k x').1, (gMany gRule k x').2) ∧ OwnRs w.heap.size lv L wr ∧ RdS w0 b x' wr ∧ RStep b w wr)
  case atStart => exact ⟨[], x, by simp, rfl, rfl, ⟨KOwns.nil _ _, fun y hy => (by cases hy)⟩, HS.out, HT.out⟩
  case round =>
    clear HS HT
    obtain ⟨L, x', hr, rfl, he, ho, hs, ht⟩ := hrel
    obtain ⟨po, co, rfl⟩ := ho.1.form
    have HO := Lib.hid ho
    have HS := Lib.hid hs
    have HT := Lib.hid ht
    have HE := Lib.hid he
    have k1 := hs.short
    clear ho hs ht he
    by_cases hk : gk = 0
    · subst hk
      go_wp2_with fail
      go_ret
      rw [HE.out]
      exact ⟨_, L, rfl, by show L.map (·.u) = L.map (·.u) ++ []; rw [List.append_nil], HO.out, HS.out, HT.out⟩
    obtain ⟨k', rfl⟩ : ∃ k', gk = k' + 1 := ⟨gk - 1, by omega⟩
    have hpos : (0 : Int) < ((k' + 1 : Nat) : Int) := by omega
    cases hsh : x'.2
    · rw [hsh] at k1
      have HC1 := Lib.hid (rrule_read w0 b x' wr HS.out)
      cases h1 : gRule x' with
      | mk u1 x1 =>
      rw [h1] at HC1
      have HG := Lib.hid (gMany_step gRule k' hsh h1)
      clear h1 hsh
      go_upto_region 5 with fail
      clear k1
      go_wp2_with (go_at_call 78; refine HC1.out.mono ?_; rintro e w2 ⟨rm, rfl, hru, hoa, hs, ht⟩; refine Hid.out ?_)
      have HU := Lib.hid hru
      have HA := Lib.hid ((show OwnA w.heap.size rm w2 from KOwns.mono hoa HT.out.below.size).below (below1 w2 (.cells (rca rm) KR.T)))
      have HS5 := Lib.hid (hs.alloc (.cells (rca rm) KR.T))
      have HT5 := Lib.hid ((HT.out.trans ht).trans (RStep.of (below1 w2 (.cells (rca rm) KR.T)) (Nat.le_of_lt hs.lt)))
      have HO5 := Lib.hid (show OwnRs w.heap.size (.slice po L.length co) L (w2.alloc (.cells (rca rm) KR.T)) from ⟨(ht.owns HO.out.1 HL.out).below (below1 w2 (.cells (rca rm) KR.T)), fun y hy => OwnA.below (ht.owns (HO.out.2 y hy) HL.out) (below1 w2 (.cells (rca rm) KR.T))⟩)
      have HK5 := Lib.hid (Blk.klies (K := KR) (l := [rm]) (Blk.new w2 (rca rm) KR.T) okR rfl)
      have HW5 := Lib.hid (show w.heap.size ≤ (w2.alloc (.cells (rca rm) KR.T)).heap.size from by
        have h1 := (HT.out.trans ht).below.size
        have h2 := (below1 w2 (.cells (rca rm) KR.T)).size
        omega)
      clear hs ht hru hoa HC1 HT HO HS
      refine Lib.hid ?_
      go_wp2_with (first
        | (refine kbuildOne KR okR #[Value.int IntKind.u64 0, Value.int IntKind.u64 0, Value.int IntKind.u64 0, Value.int IntKind.u64 0, Value.int IntKind.u64 0, Value.int IntKind.u64 0, Value.int IntKind.u64 0, Value.int IntKind.u64 0, Value.int IntKind.u64 0, Value.int IntKind.u64 0, Value.int IntKind.u64 0, Value.int IntKind.u64 0, Value.int IntKind.u64 0, Value.int IntKind.u64 0, Value.int IntKind.u64 0, Value.int IntKind.u64 0, Value.int IntKind.u64 0, Value.int IntKind.u64 0, Value.int IntKind.u64 0, Value.int IntKind.u64 0, Value.int IntKind.u64 0, Value.int IntKind.u64 0, Value.int IntKind.u64 0, Value.int IntKind.u64 0, Value.int IntKind.i64 0, Value.slice none 0 0, Value.int IntKind.i64 0, Value.int IntKind.i64 0, Value.int IntKind.i64 0, Value.int IntKind.i64 0, Value.int IntKind.i64 0, Value.int IntKind.i64 0] zeroR rfl _ rfl (rca rm) rfl (by decide) (fillOne rm) ?_)
        | (refine kappend KR okR rfl _ _ rfl w.heap.size _ L [rm] rfl HO5.out.1 _ rfl HK5.out HW5.out (by simp; omega) (fun v' w' ho hg => ?_); refine Hid.out ?_))
      have HO6 := Lib.hid (show OwnRs w.heap.size v' (L ++ [rm]) w' from ⟨ho, fun y hy => by
        rcases List.mem_append.1 hy with hy | hy
        · exact KOwns.apart (HO5.out.2 y hy) HO5.out.1 hg
        · simp only [List.mem_cons, List.not_mem_nil, or_false] at hy
          subst hy
          exact KOwns.apart HA.out HO5.out.1 hg⟩)
      have HS6 := Lib.hid (HS5.out.grow hg fun k e => by have := HO5.out.1.ge k e; have := HL.out; omega)
      have HT6 := Lib.hid (HT5.out.grow HL.out hg fun k e => HO5.out.1.ge k e)
      clear ho hg HO5 HS5 HT5 HK5 HW5 HA
      refine Lib.hid ?_
      go_wp2_with fail
      go_roundg k'
      case measure => omega
      case rel => exact ⟨L ++ [rm], x1, by simp; omega, by go_num, by rw [HE.out, HG.out, ← HU.out]; simp, HO6.out, HS6.out, HT6.out⟩
    · rw [hsh] at k1
      go_wp2_with fail
      go_ret
      rw [HE.out, gMany_stop _ _ hsh]
      exact ⟨_, L, rfl, by show L.map (·.u) = L.map (·.u) ++ []; rw [List.append_nil], HO.out, HS.out, HT.out⟩
end Go.Proofs.YtndgbgolmpoepaaDoor
