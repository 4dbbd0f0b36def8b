/-
  The walk of the law LapseParts.
-/
import Derived.Test.YtkeejifchhakhaaLapLaw
namespace Go.Proofs.Ytkeejifchhakhaa
open Go.RowKit

/-- no number of these rules is great -/
def SmallTo (l : List Rm) (r : Nat) : Prop := ∀ (j : Nat) x, j < r → l[j]? = some x → x.u.age ≤ 2305843009213693952 ∧ x.u.quiet ≤ 2305843009213693952
theorem SmallTo.all {l : List Rm} (h : SmallTo l l.length) : ∀ u ∈ l.map (·.u), u.age ≤ 2305843009213693952 ∧ u.quiet ≤ 2305843009213693952 := fun u hu => by
  obtain ⟨x, hx, rfl⟩ := List.mem_map.1 hu
  obtain ⟨j, hj⟩ := List.mem_iff_getElem?.1 hx
  exact h j x (List.getElem?_eq_some_iff.1 hj).1 hj
set_option maxRecDepth 100000 in
set_option maxHeartbeats 2000000 in
theorem lapseParts_any (v : Value) (l : List Rm) (hw : WfRL l) (hlen : l.length ≤ 140737488355328) (n : Int) (hn16 : 0 ≤ n ∧ n < 65536) (m : Int) (hm16 : 0 ≤ m ∧ m < 65536) (w0 : World) (hl : RLies v l w0) :
    Calls Try.prog 4 #[v, .int .u16 n, .int .u16 m] w0 fun e w' => e = .returned (.bool true) ∧ Below w0.heap.size w0 w' := by
  obtain ⟨p, cap, rfl⟩ := hl.1.form
  have HA := Lib.hid lanswers
  have HL := Lib.hid hl
  clear hl
  by_cases hn : 40 < l.length
  · have hnI : (40 : Int) < (l.length : Int) := by omega
    go_enter Try.func4, Try.ntmps4
    go_wp2_with (go_at_call 8; refine (HA.out _).mono ?_; rintro e w1 ⟨rfl, hw1⟩)
    go_ret
    exact ⟨rfl, hw1⟩
  · have hnI : ¬ (40 : Int) < (l.length : Int) := by omega
    have hl40 : l.length ≤ 40 := by omega
    have HW := Lib.hid hw
    have HT := Lib.hid (rtable_b (.slice p l.length cap) l (by omega) hw w0 HL.out)
    clear hw hlen hn
    cases htb : tabB l
    · rw [htb] at HT
      clear htb
      go_enter Try.func4, Try.ntmps4
      go_wp2_with (go_at_call 12; refine HT.out.mono ?_; rintro e w1 ⟨rfl, hw1⟩; refine Hid.out ?_)
      refine Lib.hid ?_
      go_wp2_with (go_at_call 8; refine (HA.out _).mono ?_; rintro e w2 ⟨rfl, hw2⟩)
      go_ret
      exact ⟨rfl, hw1.trans (hw2.mono hw1.size)⟩
    · rw [htb] at HT
      clear htb
      go_enter Try.func4, Try.ntmps4
      go_upto_region 3 with (go_at_call 12; refine HT.out.mono ?_; rintro e w1 ⟨rfl, hw1⟩; refine Hid.out ?_)
      have B1 := Lib.hid hw1
      have L1 := Lib.hid (HL.out.below hw1)
      clear hw1 HT HL
      refine Lib.hid ?_
      go_wp2_with fail
      go_loopg [7] l.length (fun k i wr => ∃ r : Nat, r + k = l.length ∧ i = .int .i64 r ∧ SmallTo l r ∧ w1 = wr)
      case atStart => exact ⟨0, by omega, rfl, fun j x hj _ => absurd hj (Nat.not_lt_zero _), rfl⟩
      case round =>
        obtain ⟨r, hr, rfl, hsm, rfl⟩ := hrel
        have HSM := Lib.hid hsm
        clear hsm
        by_cases hlt : r < l.length
        · have hltI : (r : Int) < (l.length : Int) := by omega
          obtain ⟨x, hx⟩ := lt_some hlt
          obtain ⟨b, o, rfl, hrg⟩ := L1.out.1.at hx
          have k31 : w1.cell? ⟨b, o + r * 32 + 31, none⟩ = some (.int .i64 x.u.age) := (cellsR_mid hrg).age
          have k30 : w1.cell? ⟨b, o + r * 32 + 30, none⟩ = some (.int .i64 x.u.quiet) := (cellsR_mid hrg).quiet
          have HX := Lib.hid hx
          clear hrg hx
          by_cases h1 : 2305843009213693952 < x.u.age
          · go_wp2_with (go_at_call 8; refine (HA.out _).mono ?_; rintro e w2 ⟨rfl, hw2⟩)
            go_ret
            exact ⟨rfl, B1.out.trans (hw2.mono B1.out.size)⟩
          · by_cases h2 : 2305843009213693952 < x.u.quiet
            · go_wp2_with (go_at_call 8; refine (HA.out _).mono ?_; rintro e w2 ⟨rfl, hw2⟩)
              go_ret
              exact ⟨rfl, B1.out.trans (hw2.mono B1.out.size)⟩
            · have HSM2 := Lib.hid (show SmallTo l (r + 1) from fun j y hj hy => by
                by_cases e : j = r
                · subst e
                  have := HX.out
                  rw [hy] at this
                  injection this with this
                  subst this
                  exact ⟨by omega, by omega⟩
                · exact HSM.out j y (by omega) hy)
              go_wp2_with fail
              go_roundg (l.length - (r + 1))
              case measure => omega
              case rel => exact ⟨r + 1, by omega, by go_num, HSM2.out, rfl⟩
        · have hltI : ¬ (r : Int) < (l.length : Int) := by omega
          obtain rfl : r = l.length := by omega
          have HALL := Lib.hid HSM.out.all
          have T1 := Lib.hid (tick_any (.slice p l.length cap) l (by omega) HW.out n w1 L1.out)
          rw [clamp_of hn16.1 (by omega)] at T1
          have hwn : IntKind.i64.wrap n = n := by rw [IntKind.wrap_i64]; omega
          have hwm : IntKind.i64.wrap m = m := by rw [IntKind.wrap_i64]; omega
          have hwnm : IntKind.i64.wrap (n + m) = n + m := by rw [IntKind.wrap_i64]; omega
          clear HSM
          go_upto_region 9 with (go_at_call 9; refine T1.out.mono ?_; rintro e w2 ⟨va, vb, A, B, rfl, ha, hb, hs⟩; refine Hid.out ?_)
          have HAU := Lib.hid ha
          have HBU := Lib.hid hb
          have HAN := Lib.hid (show A.length + B.length = l.length by have := tk_len ha hb; rwa [List.length_map] at this)
          obtain ⟨pa, ca, rfl⟩ := hs.a.form
          obtain ⟨pb, cb, rfl⟩ := hs.b.form
          have LA := Lib.hid hs.liesA
          have B2 := Lib.hid (B1.out.trans (hs.kept.mono B1.out.size))
          have L2 := Lib.hid (L1.out.below hs.kept)
          have WA := Lib.hid (WfUL.rl (wf_left (WfUL.of HW.out) hn16.1 (by omega)) ha)
          have hAl : A.length ≤ 100000 := by have := HAN.out; omega
          have T2 := Lib.hid (tick_any (.slice pa A.length ca) A hAl WA.out m w2 LA.out)
          rw [clamp_of hm16.1 (by omega), HAU.out] at T2
          clear ha hb hs T1 B1 L1
          refine Lib.hid ?_
          go_upto_region 10 with (go_at_call 9; refine T2.out.mono ?_; rintro e w3 ⟨vc, vd, C, D, rfl, hc, hd, hs⟩; refine Hid.out ?_)
          have HCU := Lib.hid hc
          have HDU := Lib.hid hd
          have HCN := Lib.hid (show C.length + D.length = A.length by have := tk_len hc hd; rw [← HAU.out, List.length_map] at this; exact this)
          obtain ⟨pd, cd, rfl⟩ := hs.b.form
          have LC := Lib.hid hs.liesA
          have B3 := Lib.hid (B2.out.trans (hs.kept.mono B2.out.size))
          have L3 := Lib.hid (L2.out.below hs.kept)
          have T3 := Lib.hid (tick_any (.slice p l.length cap) l (by omega) HW.out (n + m) w3 L3.out)
          rw [clamp_of (show 0 ≤ n + m by omega) (by omega)] at T3
          clear hc hd hs T2 B2 L2 LA
          refine Lib.hid ?_
          go_upto_region 11 with (go_at_call 9; refine T3.out.mono ?_; rintro e w4 ⟨vx, vy, X, Y, rfl, hx, hy, hs⟩; refine Hid.out ?_)
          obtain ⟨py, cy, rfl⟩ := hs.b.form
          have LX := Lib.hid hs.liesA
          have LC4 := Lib.hid (LC.out.below hs.kept)
          have B4 := Lib.hid (B3.out.trans (hs.kept.mono B3.out.size))
          have WX := Lib.hid (WfUL.rl (wf_left (WfUL.of HW.out) (show 0 ≤ n + m by omega) (by omega)) hx)
          have HCX := Lib.hid (show C.map (·.u) = X.map (·.u) by rw [HCU.out, hx]; exact left_parts HALL.out hn16.1 (by omega) hm16.1 (by omega))
          have HYN := Lib.hid (show B.length + D.length = Y.length by
            have h1 := congrArg List.length HBU.out
            have h2 := congrArg List.length HDU.out
            have h3 := congrArg List.length hy
            have h4 := gone_parts HALL.out hn16.1 (show n ≤ 1048576 by omega) hm16.1 (show m ≤ 1048576 by omega)
            rw [List.length_map] at h1 h2 h3
            omega)
          clear hx hy hs T3 B3 L3 LC
          have hCl : C.length ≤ 1000000 := by have := HCN.out; omega
          have hBD : B.length + D.length ≤ 1000000 := by have := HCN.out; have := HAN.out; omega
          refine Lib.hid ?_
          go_wp2_with (go_at_call 8; refine (HA.out _).mono ?_; rintro e w5 ⟨rfl, hw5⟩; refine Hid.out ?_)
          have B5 := Lib.hid (B4.out.trans (hw5.mono B4.out.size))
          have S1 := Lib.hid (rsame_yes vc vx C X hCl WX.out HCX.out w5 (LC4.out.below hw5) (LX.out.below hw5))
          clear hw5 LC4 LX B4
          refine Lib.hid ?_
          go_wp2_with (go_at_call 11; refine S1.out.mono ?_; rintro e w6 ⟨rfl, hw6⟩; refine Hid.out ?_)
          have B6 := Lib.hid (B5.out.trans (hw6.mono B5.out.size))
          have hsum : IntKind.i64.wrap ((B.length : Int) + (D.length : Int)) = (Y.length : Int) := by have := HYN.out; rw [IntKind.wrap_i64]; omega
          clear hw6 S1 B5
          refine Lib.hid ?_
          go_wp2_with fail
          go_ret
          exact ⟨rfl, B6.out⟩
end Go.Proofs.Ytkeejifchhakhaa
