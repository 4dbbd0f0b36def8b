/-
  The walk of the law LapseHits.
-/
import Derived.Test.YtkeejifchhakhaaLapLaw
namespace Go.Proofs.Ytkeejifchhakhaa
open Go.RowKit

/-- a list that was hit, at its places -/
theorem hitL_get {i : Nat} {l L : List Rm} {x : Rm} (h : L.map (·.u) = hitL (i : Int) (l.map (·.u))) (hi : l[i]? = some x) : ∃ y, L[i]? = some y ∧ y.u = hitU x.u := by
  rw [hitL_at (u := x.u) (by rw [List.getElem?_map, hi]; rfl)] at h
  have hl := (List.getElem?_eq_some_iff.1 hi).1
  have := congrArg (·[i]?) h
  simp only [List.getElem?_map] at this
  rw [List.getElem?_set_self (by rw [List.length_map]; exact hl)] at this
  cases hy : L[i]? with
  | none => rw [hy] at this; cases this
  | some y =>
    rw [hy] at this
    simp only [Option.map_some, Option.some.injEq] at this
    exact ⟨y, rfl, this⟩
set_option maxRecDepth 100000 in
set_option maxHeartbeats 2000000 in
theorem lapseHits_any (v : Value) (l : List Rm) (hw : WfRL l) (hlen : l.length ≤ 140737488355328) (n : Int) (_ : I64 n) (w0 : World) (hl : RLies v l w0) :
    Calls Try.prog 5 #[v, .int .i64 n] w0 fun e w' => e = .returned (.bool true) ∧ Below w0.heap.size w0 w' := by
  obtain ⟨p, cap, rfl⟩ := hl.1.form
  have HA := Lib.hid lanswers
  have HL := Lib.hid hl
  clear hl
  by_cases hn : 60 < l.length
  · have hnI : (60 : Int) < (l.length : Int) := by omega
    go_enter Try.func5, Try.ntmps5
    go_wp2_with (go_at_call 8; refine (HA.out _).mono ?_; rintro e w1 ⟨rfl, hw1⟩)
    go_ret
    exact ⟨rfl, hw1⟩
  · have hnI : ¬ (60 : Int) < (l.length : Int) := by omega
    have hl60 : l.length ≤ 60 := by omega
    have HW := Lib.hid hw
    have HK := Lib.hid (HL.out.1.below okR (below1 w0 (.cells #[] KR.T)))
    clear hw hlen hn
    go_enter Try.func5, Try.ntmps5
    go_upto_region 4 with (first
      | (refine kbuildNone KR okR rfl rfl ?_)
      | (refine kappend KR okR rfl (.tmp 10) (.tmp 11) rfl w0.heap.size _ [] l rfl (KOwns.built w0 _ (Nat.le_refl _)) _ rfl HK.out (by simp) (by simp; omega) (fun v1 w1 ho hg => ?_); refine Hid.out ?_))
    have B1 := Lib.hid (kbelowOwn (below1 w0 (.cells #[] KR.T)) (KOwns.built (K := KR) w0 w0.heap.size (Nat.le_refl _)) (Nat.le_refl _) hg)
    have ho' : KOwns KR w0.heap.size v1 l w1 := ho
    have L1 := Lib.hid (show RLies v1 l w1 from ⟨ho'.lies okR, (HL.out.below B1.out).2⟩)
    have T1 := Lib.hid (hit_any v1 l (by omega) HW.out n w1 L1.out)
    clear ho ho' hg HK
    refine Lib.hid ?_
    go_upto_region 4 with (go_at_call 13; refine T1.out.mono ?_; rintro e w2 ⟨g, X, rfl, hu, hc⟩; refine Hid.out ?_)
    have HXN := Lib.hid (show X.length = l.length by have := congrArg List.length hu; rwa [hitL_len, List.length_map, List.length_map] at this)
    have HXU := Lib.hid hu
    have LX := Lib.hid hc.lies
    have B2 := Lib.hid (B1.out.trans (hc.2.2.1.mono B1.out.size))
    clear hu hc T1 L1 B1
    refine Lib.hid ?_
    go_wp2_with (go_at_call 8; refine (HA.out _).mono ?_; rintro e w3 ⟨rfl, hw3⟩; refine Hid.out ?_)
    have LX3 := Lib.hid (LX.out.below hw3)
    have B3 := Lib.hid (B2.out.trans (hw3.mono B2.out.size))
    have T2 := Lib.hid (rhit_any (.slice p l.length cap) l (by omega) HW.out n w3 (HL.out.below B3.out))
    clear hw3 LX B2
    refine Lib.hid ?_
    go_wp2_with (go_at_call 14; refine T2.out.mono ?_; rintro e w4 ⟨vy, Y, rfl, hu, ho, hi, hb⟩; refine Hid.out ?_)
    have hXl : X.length ≤ 1000000 := by have := HXN.out; omega
    have LY := Lib.hid (show RLies vy Y w4 from ⟨ho.lies okR, fun r hr => (hi r hr).below hb⟩)
    have WY := Lib.hid (WfUL.rl (wf_hit (WfUL.of HW.out) n) hu)
    have S1 := Lib.hid (rsame_yes _ vy X Y hXl WY.out (HXU.out.trans hu.symm) w4 (LX3.out.below hb) LY.out)
    have LX4 := Lib.hid (LX3.out.below hb)
    have B4 := Lib.hid (B3.out.trans (hb.mono B3.out.size))
    clear hu ho hi hb T2 LX3 B3 LY
    refine Lib.hid ?_
    go_upto_region 6 with (go_at_call 11; refine S1.out.mono ?_; rintro e w5 ⟨rfl, hw5⟩; refine Hid.out ?_)
    have LX5 := Lib.hid (LX4.out.below hw5)
    have B5 := Lib.hid (B4.out.trans (hw5.mono B4.out.size))
    clear hw5 S1 LX4 B4
    refine Lib.hid ?_
    by_cases h0 : n < 0
    · go_upto_region 6 with fail
      go_quiet (fail)
      have B6 := Lib.hid (B5.out.trans ((belowDrewN w5 nq).mono B5.out.size))
      go_wp2_with fail
      go_ret
      exact ⟨rfl, B6.out⟩
    · obtain ⟨i, rfl⟩ : ∃ i : Nat, n = (i : Int) := ⟨n.toNat, by omega⟩
      by_cases hlt : i < l.length
      · obtain ⟨x, hx⟩ := lt_some hlt
        obtain ⟨y, hy, hyu⟩ := hitL_get HXU.out hx
        obtain ⟨b, o, rfl, hrg⟩ := (HL.out.below B5.out).1.at hx
        have hr2 := (LX5.out.1.at' hy)
        have hltI : (i : Int) < (l.length : Int) := by omega
        have hltI' : ¬ (l.length : Int) ≤ (i : Int) := by omega
        have hiX : (i : Int) < (X.length : Int) := by have := HXN.out; omega
        have h0' : ¬ (i : Int) < 0 := by omega
        have k31 : w5.cell? ⟨b, o + i * 32 + 31, none⟩ = some (.int .i64 x.u.age) := (cellsR_mid hrg).age
        rw [Nat.zero_add] at hr2
        have q30 : w5.cell? ⟨g, i * 32 + 30, none⟩ = some (.int .i64 0) := by have := (cellsR_mid hr2).quiet; rw [hyu] at this; exact this
        have q31 : w5.cell? ⟨g, i * 32 + 31, none⟩ = some (.int .i64 x.u.age) := by have := (cellsR_mid hr2).age; rw [hyu] at this; exact this
        clear hx hy hyu hrg hr2
        go_upto_region 6 with fail
        go_quiet (fail)
        have B6 := Lib.hid (B5.out.trans ((belowDrewN w5 nq).mono B5.out.size))
        go_wp2_with fail
        go_ret
        exact ⟨rfl, B6.out⟩
      · have hltI : ¬ (i : Int) < (l.length : Int) := by omega
        have hltI' : (l.length : Int) ≤ (i : Int) := by omega
        have h0' : ¬ (i : Int) < 0 := by omega
        go_upto_region 6 with fail
        go_quiet (fail)
        have B6 := Lib.hid (B5.out.trans ((belowDrewN w5 nq).mono B5.out.size))
        go_wp2_with fail
        go_ret
        exact ⟨rfl, B6.out⟩
end Go.Proofs.Ytkeejifchhakhaa
