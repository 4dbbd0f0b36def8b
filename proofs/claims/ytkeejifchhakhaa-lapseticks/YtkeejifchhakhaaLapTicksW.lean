/-
  The walk of the law LapseTicks.
-/
import Derived.Test.YtkeejifchhakhaaLapLaw
namespace Go.Proofs.Ytkeejifchhakhaa
open Go.RowKit

set_option maxRecDepth 100000 in
set_option maxHeartbeats 2000000 in
theorem lapseTicks_any (v : Value) (l : List Rm) (hw : WfRL l) (hlen : l.length ≤ 140737488355328) (n : Int) (_ : I64 n) (w0 : World) (hl : RLies v l w0) :
    Calls Try.prog 3 #[v, .int .i64 n] w0 fun e w' => e = .returned (.bool true) ∧ Below w0.heap.size w0 w' := by
  obtain ⟨p, cap, rfl⟩ := hl.1.form
  have HA := Lib.hid lanswers
  have HL := Lib.hid hl
  clear hl
  by_cases hn : 60 < l.length
  · have hnI : (60 : Int) < (l.length : Int) := by omega
    go_enter Try.func3, Try.ntmps3
    go_wp2_with (go_at_call 8; refine (HA.out _).mono ?_; rintro e w1 ⟨rfl, hw1⟩)
    go_ret
    exact ⟨rfl, hw1⟩
  · have hnI : ¬ (60 : Int) < (l.length : Int) := by omega
    have hl60 : l.length ≤ 60 := by omega
    have HW := Lib.hid hw
    have HK := Lib.hid (HL.out.1.below okR (below1 w0 (.cells #[] KR.T)))
    clear hw hlen hn
    go_enter Try.func3, Try.ntmps3
    go_upto_region 4 with (first
      | (refine kbuildNone KR okR rfl rfl ?_)
      | (refine kappend KR okR rfl (.tmp 14) (.tmp 15) rfl w0.heap.size _ [] l rfl (KOwns.built w0 _ (Nat.le_refl _)) _ rfl HK.out (by simp) (by simp; omega) (fun v1 w1 ho hg => ?_); refine Hid.out ?_))
    have B1 := Lib.hid (kbelowOwn (below1 w0 (.cells #[] KR.T)) (KOwns.built (K := KR) w0 w0.heap.size (Nat.le_refl _)) (Nat.le_refl _) hg)
    have ho' : KOwns KR w0.heap.size v1 l w1 := ho
    have L1 := Lib.hid (show RLies v1 l w1 from ⟨ho'.lies okR, (HL.out.below B1.out).2⟩)
    have T1 := Lib.hid (tick_any v1 l (by omega) HW.out n w1 L1.out)
    clear ho ho' hg HK
    refine Lib.hid ?_
    go_upto_region 4 with (go_at_call 9; refine T1.out.mono ?_; rintro e w2 ⟨va, vb, A, B, rfl, ha, hb, hs⟩; refine Hid.out ?_)
    have HLN := Lib.hid (show A.length + B.length = l.length by have := tk_len ha hb; rwa [List.length_map] at this)
    obtain ⟨pa, ca, rfl⟩ := hs.a.form
    obtain ⟨pb, cb, rfl⟩ := hs.b.form
    have HAU := Lib.hid ha
    have HBU := Lib.hid hb
    have LA := Lib.hid hs.liesA
    have LB := Lib.hid hs.liesB
    have B2 := Lib.hid (B1.out.trans (hs.kept.mono B1.out.size))
    have T2 := Lib.hid (rtick_any (.slice p l.length cap) l (by omega) HW.out n w2 (HL.out.below B2.out))
    clear ha hb hs T1 L1 B1
    refine Lib.hid ?_
    go_upto_region 5 with (go_at_call 10; refine T2.out.mono ?_; rintro e w3 ⟨vc, vd, C, D, rfl, hc, hd, hs⟩; refine Hid.out ?_)
    have HCU := Lib.hid hc
    have HDU := Lib.hid hd
    have LC := Lib.hid hs.rliesA
    have LD := Lib.hid hs.rliesB
    have LA3 := Lib.hid (LA.out.below hs.kept)
    have LB3 := Lib.hid (LB.out.below hs.kept)
    have B3 := Lib.hid (B2.out.trans (hs.kept.mono B2.out.size))
    clear hc hd hs T2 LA LB B2
    have hcr := clamp_range n
    have WC := Lib.hid (WfUL.rl (wf_left (WfUL.of HW.out) hcr.1 hcr.2) HCU.out)
    have WD := Lib.hid (WfUL.rl (wf_gone (WfUL.of HW.out) hcr.1 hcr.2) HDU.out)
    refine Lib.hid ?_
    go_wp2_with (go_at_call 8; refine (HA.out _).mono ?_; rintro e w4 ⟨rfl, hw4⟩; refine Hid.out ?_)
    have hAl : A.length ≤ 1000000 := by have := HLN.out; omega
    have hBl : B.length ≤ 1000000 := by have := HLN.out; omega
    have S1 := Lib.hid (rsame_yes _ vc A C hAl WC.out (HAU.out.trans HCU.out.symm) w4 (LA3.out.below hw4) (LC.out.below hw4))
    have LB4 := Lib.hid (LB3.out.below hw4)
    have LD4 := Lib.hid (LD.out.below hw4)
    have B4 := Lib.hid (B3.out.trans (hw4.mono B3.out.size))
    clear hw4 LA3 LB3 LC LD B3 HAU HCU
    refine Lib.hid ?_
    go_wp2_with (go_at_call 11; refine S1.out.mono ?_; rintro e w5 ⟨rfl, hw5⟩; refine Hid.out ?_)
    have S2 := Lib.hid (rsame_yes _ vd B D hBl WD.out (HBU.out.trans HDU.out.symm) w5 (LB4.out.below hw5) (LD4.out.below hw5))
    have B5 := Lib.hid (B4.out.trans (hw5.mono B4.out.size))
    clear hw5 LB4 LD4 B4 S1 HBU HDU
    refine Lib.hid ?_
    go_wp2_with (go_at_call 11; refine S2.out.mono ?_; rintro e w6 ⟨rfl, hw6⟩; refine Hid.out ?_)
    have B6 := Lib.hid (B5.out.trans (hw6.mono B5.out.size))
    have hsum : IntKind.i64.wrap ((A.length : Int) + (B.length : Int)) = (l.length : Int) := by have := HLN.out; rw [IntKind.wrap_i64]; omega
    clear hw6 S2 B5
    refine Lib.hid ?_
    go_wp2_with fail
    go_ret
    exact ⟨rfl, B6.out⟩
end Go.Proofs.Ytkeejifchhakhaa
