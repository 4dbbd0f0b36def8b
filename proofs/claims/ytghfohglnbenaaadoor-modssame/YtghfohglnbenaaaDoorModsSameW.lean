/-
  The walk of the law ModsSame.
-/
import Derived.Test.YtghfohglnbenaaaDoorModTwo
namespace Go.Proofs.YtghfohglnbenaaaDoor
open Go.RowKit

/-- a change that is the same as another has its cells -/
theorem mca_same {a b : Mm} (h : mEq a.u b.u = true) : mca b = mca ⟨a.u, b.q, b.n, b.c⟩ ∧ b.u.acts = a.u.acts := by
  unfold mEq at h
  simp only [Bool.and_eq_true, beq_iff_eq] at h
  obtain ⟨h1, h2, h3, h4, h5, h6, h7, h8⟩ := h
  have hc : cl b.u.m = cl a.u.m := by
    have e := (cEq_iff _ _).1 h2
    unfold cl
    refine List.map_congr_left fun j hj => ?_
    rw [e j (by simpa using hj)]
  refine ⟨?_, ((aEqL_iff _ _).1 h4).symm⟩
  unfold mca mcl mtl
  rw [hc, h1, h3, h5, h6, h7, h8]
set_option maxRecDepth 100000 in
set_option maxHeartbeats 4000000 in
theorem modsSame_core (v : Value) (l : List Rm) (hw : WfRL l) (hlen : l.length ≤ 140737488355328) (a : Mm) (ha : WfM a.u) (b : Mm) (hb : WfM b.u) (w0 : World) (hl : RLies v l w0) (la : InM a w0) (lb : InM b w0) (ht : Tab w0) (hz : 0 < w0.heap.size)
    (he : mEq a.u b.u = false ∨ b.u = a.u) :
    Calls Tryd.prog 11 #[v, .agg (mca a), .agg (mca b)] w0 fun e w' => e = .returned (.bool true) ∧ Below w0.heap.size w0 w' := by
  obtain ⟨p, cap, rfl⟩ := hl.1.form
  have HS := Lib.hid (A2S.start hl la lb ht hz)
  have HA := Lib.hid (fun (W : World) (hS : Env w0 W) => manswers W hS.tab hS.lt)
  have HQ := Lib.hid (fun (W : World) (hS : A2S w0 (.slice p l.length cap) l a b W) => msame_any a b (by have := hb.room; omega) W hS.2.1.1 hS.2.1.2)
  have HR := Lib.hid (fun (W : World) (hS : A2S w0 (.slice p l.length cap) l a b W) => rsamem_any a b (by have := hb.room; omega) W hS.2.1.1 hS.2.1.2)
  have HQ2 := Lib.hid (fun (W : World) (hS : A2S w0 (.slice p l.length cap) l a b W) => msame_any a a (by have := ha.room; omega) W hS.2.1.1 hS.2.1.1)
  rw [mEq_self] at HQ2
  have HW := Lib.hid hw
  have HM := Lib.hid ha
  have HN := Lib.hid hb
  obtain ⟨y, hy⟩ : ∃ y, y = mEq a.u b.u := ⟨_, rfl⟩
  rw [← hy] at HQ HR he
  have HY := Lib.hid (show y = true → b.u = a.u from fun h => he.resolve_left (by rw [h]; decide))
  clear ht hl hw la lb ha hb hy he
  go_enter Tryd.func11, Tryd.ntmps11
  go_upto_region 1 with fail
  generalize (w0.alloc (.cells (mca a) 30)).alloc (.cells (mca b) 30) = W0 at *
  have ka := HS.out.2.2.1.1.cellsM.2.2.2.1
  have kb := HS.out.2.2.1.2.cellsM.2.2.2.1
  by_cases hn : 30 < l.length
  · have hnI : (30 : Int) < (l.length : Int) := by omega
    go_wp2_with (go_at_call 12; refine (HA.out _ HS.out.2.2.2).mono ?_; rintro e w9 ⟨rfl, hw9⟩)
    go_ret
    exact ⟨rfl, (HS.out.2.2.2.below hw9).kept⟩
  have hnI : ¬ (30 : Int) < (l.length : Int) := by omega
  by_cases hk : 20 < a.n
  · have hkI : (20 : Int) < (a.n : Int) := by omega
    go_wp2_with (go_at_call 12; refine (HA.out _ HS.out.2.2.2).mono ?_; rintro e w9 ⟨rfl, hw9⟩)
    go_ret
    exact ⟨rfl, (HS.out.2.2.2.below hw9).kept⟩
  have hkI : ¬ (20 : Int) < (a.n : Int) := by omega
  by_cases hq : 20 < b.n
  · have hqI : (20 : Int) < (b.n : Int) := by omega
    go_wp2_with (go_at_call 12; refine (HA.out _ HS.out.2.2.2).mono ?_; rintro e w9 ⟨rfl, hw9⟩)
    go_ret
    exact ⟨rfl, (HS.out.2.2.2.below hw9).kept⟩
  have hqI : ¬ (20 : Int) < (b.n : Int) := by omega
  go_upto_region 4 with (first
    | (refine wpList_load_row rfl 30 (.tmp 4) rfl w0.heap.size rfl 30 (mca a) (0, 0) _ HS.out.2.2.1.1 Tryd.underlying30 rfl infoM ?_)
    | (refine wpList_load_row rfl 30 (.tmp 5) rfl (w0.heap.size + 1) rfl 30 (mca b) (0, 0) _ HS.out.2.2.1.2 Tryd.underlying30 rfl infoM ?_)
    | (go_at_call 25; refine (HQ.out _ HS.out).mono ?_; rintro e w1 ⟨rfl, hw1⟩; refine Hid.out ?_))
  have HS1 := Lib.hid (A2S.below hw1 HS.out)
  clear hw1 HS HQ ka kb
  refine Lib.hid ?_
  go_upto_region 4 with fail
  go_wp2_with (go_at_call 12; refine (HA.out _ HS1.out.2.2.2).mono ?_; rintro e w2 ⟨rfl, hw2⟩; refine Hid.out ?_)
  have HS2 := Lib.hid (A2S.below hw2 HS1.out)
  clear hw2 HS1 HA
  refine Lib.hid ?_
  go_wp2_with (first
    | (refine loadRowG rfl 30 (.tmp 4) rfl w0.heap.size rfl 30 (mca a) (0, 0) HS2.out.2.2.1.1 Tryd.underlying30 rfl infoM ?_)
    | (refine loadRowG rfl 30 (.tmp 5) rfl (w0.heap.size + 1) rfl 30 (mca b) (0, 0) HS2.out.2.2.1.2 Tryd.underlying30 rfl infoM ?_)
    | (go_at_call 24; refine (HR.out _ HS2.out).mono ?_; rintro e w3 ⟨rfl, hw3⟩; refine Hid.out ?_))
  have HS3 := Lib.hid (A2S.below hw3 HS2.out)
  clear hw3 HS2 HR
  have hyn : (y != y) = false := by cases y <;> rfl
  have hye : (y == y) = true := by cases y <;> rfl
  refine Lib.hid ?_
  go_upto_region 6 with (first
    | (refine loadRowG rfl 30 (.tmp 4) rfl w0.heap.size rfl 30 (mca a) (0, 0) HS3.out.2.2.1.1 Tryd.underlying30 rfl infoM ?_)
    | (go_at_call 25; refine (HQ2.out _ HS3.out).mono ?_; rintro e w4 ⟨rfl, hw4⟩; refine Hid.out ?_))
  have HS4 := Lib.hid (A2S.below hw4 HS3.out)
  clear hw4 HS3 HQ2
  refine Lib.hid ?_
  go_upto_region 6 with fail
  have HP1 := Lib.hid (apply_at _ l (by omega) HW.out a HM.out 1000 _ HS4.out.1 HS4.out.2.1.1 HS4.out.2.2.2.tab HS4.out.2.2.2.lt _ rfl _ _ rfl rfl)
  go_upto_region 7 with (first
    | (refine wpList_load_row rfl 30 (.tmp 4) rfl w0.heap.size rfl 30 (mca a) (0, 0) _ HS4.out.2.2.1.1 Tryd.underlying30 rfl infoM ?_)
    | (go_at_call 13; refine HP1.out.mono ?_; rintro e w5 ⟨v1, L1, rfl, hu1, hi1⟩; refine Hid.out ?_))
  have HS5 := Lib.hid (A2S.below hi1.2.2 HS4.out)
  have HI1 := Lib.hid hi1.lies
  have HU1 := Lib.hid hu1
  clear HS4 HP1 hi1 hu1
  have HP2 := Lib.hid (apply_at _ l (by omega) HW.out b HN.out 1000 _ HS5.out.1 HS5.out.2.1.2 HS5.out.2.2.2.tab HS5.out.2.2.2.lt _ rfl _ _ rfl rfl)
  refine Lib.hid ?_
  go_upto_region 8 with (first
    | (refine wpList_load_row rfl 30 (.tmp 5) rfl (w0.heap.size + 1) rfl 30 (mca b) (0, 0) _ HS5.out.2.2.1.2 Tryd.underlying30 rfl infoM ?_)
    | (go_at_call 13; refine HP2.out.mono ?_; rintro e w6 ⟨v2, L2, rfl, hu2, hi2⟩; refine Hid.out ?_))
  have HS6 := Lib.hid (A2S.below hi2.2.2 HS5.out)
  have HI6 := Lib.hid (And.intro (HI1.out.below hi2.2.2) hi2.lies)
  have HU2 := Lib.hid hu2
  clear HS5 HP2 HI1 hi2 hu2
  refine Lib.hid ?_
  cases y
  · go_wp2_with fail
    go_ret
    exact ⟨rfl, HS6.out.2.2.2.kept⟩
  · have hub := HY.out rfl
    rw [hub] at HU2 HN
    rw [hub]
    have HW2 := Lib.hid (show WfRL L2 by
      have hu2 := HU2.out
      by_cases h0 : applyE (l.map (·.u)) a.u 1000 = 0
      · rw [appV_ok h0] at hu2; exact wf_app HW.out HM.out hu2
      · rw [appV_no h0] at hu2
        obtain rfl : L2 = [] := by simpa using hu2
        exact fun r hr => (by cases hr))
    have hl1 : L1.length ≤ 31 := by
      have hu1 := HU1.out
      by_cases h0 : applyE (l.map (·.u)) a.u 1000 = 0
      · rw [appV_ok h0] at hu1; exact len_app (n := 30) (by omega) hu1
      · rw [appV_no h0] at hu1
        obtain rfl : L1 = [] := by simpa using hu1
        exact Nat.zero_le _
    have HSa := Lib.hid (rsame_eq v1 v2 L1 L2 (by omega) HW2.out (HU1.out.trans HU2.out.symm) w6 HI6.out.1 HI6.out.2)
    clear hub HY
    generalize applyE (l.map (·.u)) a.u 1000 = E at *
    go_wp2_with (go_at_call 15; refine HSa.out.mono ?_; rintro e w7 ⟨rfl, hw7⟩)
    go_ret
    exact ⟨rfl, (HS6.out.2.2.2.below hw7).kept⟩
theorem modsSame_any (v : Value) (l : List Rm) (hw : WfRL l) (hlen : l.length ≤ 140737488355328) (a : Mm) (ha : WfM a.u) (b : Mm) (hb : WfM b.u) (w0 : World) (hl : RLies v l w0) (la : InM a w0) (lb : InM b w0) (ht : Tab w0) (hz : 0 < w0.heap.size) :
    Calls Tryd.prog 11 #[v, .agg (mca a), .agg (mca b)] w0 fun e w' => e = .returned (.bool true) ∧ Below w0.heap.size w0 w' := by
  cases h : mEq a.u b.u
  · exact modsSame_core v l hw hlen a ha b hb w0 hl la lb ht hz (.inl h)
  · obtain ⟨h1, h2⟩ := mca_same h
    rw [h1]
    exact modsSame_core v l hw hlen a ha ⟨a.u, b.q, b.n, b.c⟩ ha w0 hl la (show KLies KA (.slice b.q b.n b.c) a.u.acts w0 by rw [← h2]; exact lb) ht hz (.inr rfl)
end Go.Proofs.YtghfohglnbenaaaDoor
