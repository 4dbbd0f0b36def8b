/-
  The walk of the law LapseStill.
-/
import Derived.Test.YtkeejifchhakhaaLapLaw
namespace Go.Proofs.Ytkeejifchhakhaa
open Go.RowKit

set_option maxRecDepth 100000 in
set_option maxHeartbeats 2000000 in
theorem lapseStill_any (v : Value) (l : List Rm) (hw : WfRL l) (hlen : l.length ≤ 140737488355328) (n : Int) (hn16 : 0 ≤ n ∧ n < 65536) (w0 : World) (hl : RLies v l w0) :
    Calls Try.prog 6 #[v, .int .u16 n] w0 fun e w' => e = .returned (.bool true) ∧ Below w0.heap.size w0 w' := by
  obtain ⟨p, cap, rfl⟩ := hl.1.form
  have HA := Lib.hid lanswers
  have HL := Lib.hid hl
  clear hl
  by_cases hn : 40 < l.length
  · have hnI : (40 : Int) < (l.length : Int) := by omega
    go_enter Try.func6, Try.ntmps6
    go_wp2_with (go_at_call 8; refine (HA.out _).mono ?_; rintro e w1 ⟨rfl, hw1⟩)
    go_ret
    exact ⟨rfl, hw1⟩
  · have hnI : ¬ (40 : Int) < (l.length : Int) := by omega
    have hl40 : l.length ≤ 40 := by omega
    have HW := Lib.hid hw
    have HT := Lib.hid (rtable_b (.slice p l.length cap) l (by omega) hw w0 HL.out)
    clear hw hlen hn
    cases htb : tabB l
    · rw [htb] at HT
      clear htb
      go_enter Try.func6, Try.ntmps6
      go_wp2_with (go_at_call 12; refine HT.out.mono ?_; rintro e w1 ⟨rfl, hw1⟩; refine Hid.out ?_)
      refine Lib.hid ?_
      go_wp2_with (go_at_call 8; refine (HA.out _).mono ?_; rintro e w2 ⟨rfl, hw2⟩)
      go_ret
      exact ⟨rfl, hw1.trans (hw2.mono hw1.size)⟩
    · rw [htb] at HT
      clear htb
      go_enter Try.func6, Try.ntmps6
      go_upto_region 3 with (go_at_call 12; refine HT.out.mono ?_; rintro e w1 ⟨rfl, hw1⟩; refine Hid.out ?_)
      have B1 := Lib.hid hw1
      have T1 := Lib.hid (tick_any (.slice p l.length cap) l (by omega) HW.out 0 w1 (HL.out.below hw1))
      rw [clamp_of (show (0 : Int) ≤ 0 by decide) (by decide)] at T1
      clear hw1 HT
      refine Lib.hid ?_
      go_upto_region 4 with (go_at_call 9; refine T1.out.mono ?_; rintro e w2 ⟨va, vb, A, B, rfl, ha, hb, hs⟩; refine Hid.out ?_)
      have HAU := Lib.hid ha
      have HBU := Lib.hid hb
      obtain ⟨pa, ca, rfl⟩ := hs.a.form
      obtain ⟨pb, cb, rfl⟩ := hs.b.form
      have LA := Lib.hid hs.liesA
      have LB := Lib.hid hs.liesB
      have B2 := Lib.hid (B1.out.trans (hs.kept.mono B1.out.size))
      have T2 := Lib.hid (tick_any (.slice p l.length cap) l (by omega) HW.out (-n) w2 (HL.out.below B2.out))
      rw [clamp_neg (show -n ≤ 0 by omega)] at T2
      have hwn : IntKind.i64.wrap (-n) = -n := by rw [IntKind.wrap_i64]; omega
      have hwn2 : IntKind.i64.wrap n = n := by rw [IntKind.wrap_i64]; omega
      clear ha hb hs T1 B1
      refine Lib.hid ?_
      go_upto_region 5 with (go_at_call 9; refine T2.out.mono ?_; rintro e w3 ⟨vc, vd, C, D, rfl, hc, hd, hs⟩; refine Hid.out ?_)
      have HCU := Lib.hid hc
      have HDU := Lib.hid hd
      have LC := Lib.hid hs.liesA
      have LD := Lib.hid hs.liesB
      have LA3 := Lib.hid (LA.out.below hs.kept)
      have LB3 := Lib.hid (LB.out.below hs.kept)
      have B3 := Lib.hid (B2.out.trans (hs.kept.mono B2.out.size))
      have T3 := Lib.hid (rtick_any (.slice p l.length cap) l (by omega) HW.out 0 w3 (HL.out.below B3.out))
      rw [clamp_of (show (0 : Int) ≤ 0 by decide) (by decide)] at T3
      clear hc hd hs T2 B2 LA LB hwn hwn2
      refine Lib.hid ?_
      go_upto_region 6 with (go_at_call 10; refine T3.out.mono ?_; rintro e w4 ⟨vx, vy, X, Y, rfl, hx, hy, hs⟩; refine Hid.out ?_)
      obtain ⟨py, cy, rfl⟩ := hs.b.form
      have HXU := Lib.hid hx
      have HYB := Lib.hid (show B.length = Y.length by have := congrArg List.length (HBU.out.trans hy.symm); rwa [List.length_map, List.length_map] at this)
      have LX := Lib.hid hs.rliesA
      have LA4 := Lib.hid (LA3.out.below hs.kept)
      have LB4 := Lib.hid (LB3.out.below hs.kept)
      have LC4 := Lib.hid (LC.out.below hs.kept)
      have LD4 := Lib.hid (LD.out.below hs.kept)
      have B4 := Lib.hid (B3.out.trans (hs.kept.mono B3.out.size))
      have WL := Lib.hid (wf_left (WfUL.of HW.out) (show (0 : Int) ≤ 0 by decide) (by decide))
      have WG := Lib.hid (wf_gone (WfUL.of HW.out) (show (0 : Int) ≤ 0 by decide) (by decide))
      have HAN := Lib.hid (show A.length + B.length = l.length by have := tk_len HAU.out HBU.out; rwa [List.length_map] at this)
      clear hx hy hs T3 B3 LA3 LB3 LC LD
      have hAl : A.length ≤ 1000000 := by have := HAN.out; omega
      have hBl : B.length ≤ 1000000 := by have := HAN.out; omega
      refine Lib.hid ?_
      go_wp2_with (go_at_call 8; refine (HA.out _).mono ?_; rintro e w5 ⟨rfl, hw5⟩; refine Hid.out ?_)
      have LA5 := Lib.hid (LA4.out.below hw5)
      have LB5 := Lib.hid (LB4.out.below hw5)
      have LC5 := Lib.hid (LC4.out.below hw5)
      have LD5 := Lib.hid (LD4.out.below hw5)
      have LX5 := Lib.hid (LX.out.below hw5)
      have B5 := Lib.hid (B4.out.trans (hw5.mono B4.out.size))
      have S1 := Lib.hid (rsame_yes _ vc A C hAl (WL.out.rl HCU.out) (HAU.out.trans HCU.out.symm) w5 LA5.out LC5.out)
      clear hw5 LA4 LB4 LC4 LD4 LX B4
      refine Lib.hid ?_
      go_wp2_with (go_at_call 11; refine S1.out.mono ?_; rintro e w6 ⟨rfl, hw6⟩; refine Hid.out ?_)
      have S2 := Lib.hid (rsame_yes _ vd B D hBl (WG.out.rl HDU.out) (HBU.out.trans HDU.out.symm) w6 (LB5.out.below hw6) (LD5.out.below hw6))
      have LA6 := Lib.hid (LA5.out.below hw6)
      have LX6 := Lib.hid (LX5.out.below hw6)
      have B6 := Lib.hid (B5.out.trans (hw6.mono B5.out.size))
      clear hw6 LA5 LB5 LC5 LD5 LX5 B5 S1
      refine Lib.hid ?_
      go_wp2_with (go_at_call 11; refine S2.out.mono ?_; rintro e w7 ⟨rfl, hw7⟩; refine Hid.out ?_)
      have S3 := Lib.hid (rsame_yes _ vx A X hAl (WL.out.rl HXU.out) (HAU.out.trans HXU.out.symm) w7 (LA6.out.below hw7) (LX6.out.below hw7))
      have B7 := Lib.hid (B6.out.trans (hw7.mono B6.out.size))
      clear hw7 LA6 LX6 B6 S2
      refine Lib.hid ?_
      go_wp2_with (go_at_call 11; refine S3.out.mono ?_; rintro e w8 ⟨rfl, hw8⟩; refine Hid.out ?_)
      have B8 := Lib.hid (B7.out.trans (hw8.mono B7.out.size))
      have heq : ((B.length : Int) == (Y.length : Int)) = true := by have := HYB.out; simp; omega
      clear hw8 S3 B7
      refine Lib.hid ?_
      go_wp2_with fail
      go_ret
      exact ⟨rfl, B8.out⟩
end Go.Proofs.Ytkeejifchhakhaa
