/-
  The walk of the law RulePairs.
-/
import Derived.Test.YthalpnmejompdaaDoorRuleAns
namespace Go.Proofs.YthalpnmejompdaaDoor
open Go.RowKit

/-- the two rules of the law -/
def PrS (w0 : World) (a b : Rm) (W : World) : Prop := Blk w0.heap.size (rca a) 29 W ∧ Blk (w0.heap.size + 1) (rca b) 29 W ∧ InA a W ∧ InA b W ∧ Env w0 W
theorem PrS.below {w0 : World} {a b : Rm} {W W' : World} (hb : Below W.heap.size W W') (h : PrS w0 a b W) : PrS w0 a b W' := ⟨h.1.below hb, h.2.1.below hb, h.2.2.1.below hb, h.2.2.2.1.below hb, h.2.2.2.2.below hb⟩
theorem PrS.start {w0 : World} {a b : Rm} (la : InA a w0) (lb : InA b w0) (ht : Tab w0) (hz : 0 < w0.heap.size) : PrS w0 a b ((w0.alloc (.cells (rca a) 29)).alloc (.cells (rca b) 29)) :=
  ⟨two_a _ _ _, two_b _ _ _, la.below (two_below _ _ _), lb.below (two_below _ _ _), ((Env.start ht hz).alloc _).alloc _⟩
theorem PrS.cellA {w0 : World} {a b : Rm} {W : World} (h : PrS w0 a b W) : W.cell? ⟨w0.heap.size, 25, none⟩ = some (.slice a.q a.n a.c) := h.1.cellsR.2.2.1
theorem PrS.cellB {w0 : World} {a b : Rm} {W : World} (h : PrS w0 a b W) : W.cell? ⟨w0.heap.size + 1, 25, none⟩ = some (.slice b.q b.n b.c) := h.2.1.cellsR.2.2.1
theorem InA.len {a : Rm} {W : World} (h : InA a W) : a.n = a.u.acts.length := by
  obtain ⟨_, _, e⟩ := KLies.form h
  injection e
theorem lt_turn {a b : Ru} (h : rOrd a b < 0) : decide (rOrd b a < 0) = false := decide_eq_false (by have := rOrd_ordd.neg a b; omega)
set_option maxRecDepth 100000 in
set_option maxHeartbeats 2000000 in
theorem rulePairs_any (a : Rm) (ha : WfR a.u) (b : Rm) (hb : WfR b.u) (w0 : World) (la : InA a w0) (lb : InA b w0) (ht : Tab w0) (hz : 0 < w0.heap.size) :
    Calls Tryd.prog 3 #[.agg (rca a), .agg (rca b)] w0 fun e w' => e = .returned (.bool true) ∧ Below w0.heap.size w0 w' := by
  have HS := Lib.hid (PrS.start la lb ht hz)
  have HA := Lib.hid (fun (W : World) (h : PrS w0 a b W) => ranswers W h.2.2.2.2.tab h.2.2.2.2.lt)
  have na : a.n < 9223372036854775807 := by rw [la.len]; have := ha.len; omega
  have nb : b.n < 9223372036854775807 := by rw [lb.len]; have := hb.len; omega
  have ka := HS.out.cellA
  have kb := HS.out.cellB
  by_cases h1 : 50 < a.n
  · have h1I : (50 : Int) < (a.n : Int) := by omega
    clear ht la lb
    go_enter Tryd.func3, Tryd.ntmps3
    go_wp2_with (go_at_call 10; refine (HA.out _ HS.out).mono ?_; rintro e w1 ⟨rfl, hw1⟩)
    go_ret
    exact ⟨rfl, (HS.out.2.2.2.2.below hw1).kept⟩
  · have h1I : ¬ (50 : Int) < (a.n : Int) := by omega
    by_cases h2 : 50 < b.n
    · have h2I : (50 : Int) < (b.n : Int) := by omega
      clear ht la lb
      go_enter Tryd.func3, Tryd.ntmps3
      go_wp2_with (go_at_call 10; refine (HA.out _ HS.out).mono ?_; rintro e w1 ⟨rfl, hw1⟩)
      go_ret
      exact ⟨rfl, (HS.out.2.2.2.2.below hw1).kept⟩
    · have h2I : ¬ (50 : Int) < (b.n : Int) := by omega
      have HS1 := Lib.hid (fun (W : World) (h : PrS w0 a b W) => rsound_any a ha W h.2.2.1 h.2.2.2.2.tab h.2.2.2.2.lt)
      have HS2 := Lib.hid (fun (W : World) (h : PrS w0 a b W) => rrule_any a ha W h.2.2.1 h.2.2.2.2.tab h.2.2.2.2.lt)
      have HK1 := Lib.hid (fun (W : World) => key_any a b W)
      have HK2 := Lib.hid (fun (W : World) => rkey_any a b W)
      have HB1 := Lib.hid (fun (W : World) => before_any a b W)
      have HB2 := Lib.hid (fun (W : World) => rbefore_any a b W)
      have HB3 := Lib.hid (fun (W : World) => before_any b a W)
      have HO1 := Lib.hid (fun (W : World) (h : PrS w0 a b W) => overlap_any a b ha.m hb.m W h.2.2.2.2.tab h.2.2.2.2.lt)
      have HO2 := Lib.hid (fun (W : World) => roverlap_any a b ha.m hb.m W)
      have HO3 := Lib.hid (fun (W : World) (h : PrS w0 a b W) => overlap_any b a hb.m ha.m W h.2.2.2.2.tab h.2.2.2.2.lt)
      rw [← ovB_symm ha.m hb.m] at HO3
      have hzz := lt_turn (a := a.u) (b := b.u)
      clear ht la lb ha hb
      generalize sndR a.u = y1 at *
      generalize keyB a.u b.u = y2 at *
      generalize ovB a.u b.u = y3 at *
      by_cases hz1 : rOrd a.u b.u < 0
      · rw [hzz hz1] at HB3
        rw [decide_eq_true hz1] at HB1 HB2
        clear hzz hz1
        go_enter Tryd.func3, Tryd.ntmps3
        go_upto_region 3 with fail
        refine wp_region_held_drew (S := PrS w0 a b) (by kernel_rfl) (PrS.below (Below.refl _ _).drew HS.out) (fun hS => ?_)
        clear HS ka kb
        generalize ((w0.alloc (.cells (rca a) 29)).alloc (.cells (rca b) 29)).drew = W at *
        refine seqCall 0 rfl (by kernel_rfl) rfl (fun K hK => ?_)
        go_simp
        refine (HA.out _ hS).mono ?_
        rintro e w1 ⟨rfl, hw1⟩
        refine hK.out _ _ (PrS.below hw1 hS) (fun hS => ?_)
        clear hK K hw1
        try simp only [Act.put, List.setIfInBounds_toArray, List.set_cons_zero, List.set_cons_succ]
        refine seqRead 1 (v := _) rfl (by kernel_rfl) (by kernel_rfl) (by kernel_rfl) (fun _ _ _ h => h) rfl (fun w hSw => by go_simp <;> with_reducible rfl) hS ?_
        try simp only [Act.put, List.setIfInBounds_toArray, List.set_cons_zero, List.set_cons_succ]
        refine seqRead 2 (v := _) rfl (by kernel_rfl) (by kernel_rfl) (by kernel_rfl) (fun _ _ _ h => h) rfl (fun w hSw => execRow0 rfl _ rfl hSw.1 Tryd.underlying29 rfl infoR) hS ?_
        try simp only [Act.put, List.setIfInBounds_toArray, List.set_cons_zero, List.set_cons_succ]
        refine seqRead 4 (v := _) rfl (by kernel_rfl) (by kernel_rfl) (by kernel_rfl) (fun _ _ _ h => h) rfl (fun w hSw => execRow0 rfl _ rfl hSw.1 Tryd.underlying29 rfl infoR) hS ?_
        try simp only [Act.put, List.setIfInBounds_toArray, List.set_cons_zero, List.set_cons_succ]
        refine seqCall 3 rfl (by kernel_rfl) rfl (fun K hK => ?_)
        go_simp
        refine (HS1.out _ hS).mono ?_
        rintro e w1 ⟨rfl, hw1⟩
        refine hK.out _ _ (PrS.below hw1 hS) (fun hS => ?_)
        clear hK K hw1
        try simp only [Act.put, List.setIfInBounds_toArray, List.set_cons_zero, List.set_cons_succ]
        refine seqCall 5 rfl (by kernel_rfl) rfl (fun K hK => ?_)
        go_simp
        refine (HS2.out _ hS).mono ?_
        rintro e w1 ⟨rfl, hw1⟩
        refine hK.out _ _ (PrS.below hw1 hS) (fun hS => ?_)
        clear hK K hw1
        try simp only [Act.put, List.setIfInBounds_toArray, List.set_cons_zero, List.set_cons_succ]
        refine seqRead 6 (v := _) rfl (by kernel_rfl) (by kernel_rfl) (by kernel_rfl) (fun _ _ _ h => h) rfl (fun w hSw => by go_simp <;> with_reducible rfl) hS ?_
        try simp only [Act.put, List.setIfInBounds_toArray, List.set_cons_zero, List.set_cons_succ]
        refine seqRead 7 (v := _) rfl (by kernel_rfl) (by kernel_rfl) (by kernel_rfl) (fun _ _ _ h => h) rfl (fun w hSw => by go_simp <;> with_reducible rfl) hS ?_
        try simp only [Act.put, List.setIfInBounds_toArray, List.set_cons_zero, List.set_cons_succ]
        refine seqRead 8 (v := _) rfl (by kernel_rfl) (by kernel_rfl) (by kernel_rfl) (fun _ _ _ h => h) rfl (fun w hSw => by go_simp <;> with_reducible rfl) hS ?_
        try simp only [Act.put, List.setIfInBounds_toArray, List.set_cons_zero, List.set_cons_succ]
        refine seqRead 9 (v := _) rfl (by kernel_rfl) (by kernel_rfl) (by kernel_rfl) (fun _ _ _ h => h) rfl (fun w hSw => execRow0 rfl _ rfl hSw.1 Tryd.underlying29 rfl infoR) hS ?_
        try simp only [Act.put, List.setIfInBounds_toArray, List.set_cons_zero, List.set_cons_succ]
        refine seqRead 10 (v := _) rfl (by kernel_rfl) (by kernel_rfl) (by kernel_rfl) (fun _ _ _ h => h) rfl (fun w hSw => execRow0 rfl _ rfl hSw.2.1 Tryd.underlying29 rfl infoR) hS ?_
        try simp only [Act.put, List.setIfInBounds_toArray, List.set_cons_zero, List.set_cons_succ]
        refine seqRead 12 (v := _) rfl (by kernel_rfl) (by kernel_rfl) (by kernel_rfl) (fun _ _ _ h => h) rfl (fun w hSw => execRow0 rfl _ rfl hSw.1 Tryd.underlying29 rfl infoR) hS ?_
        try simp only [Act.put, List.setIfInBounds_toArray, List.set_cons_zero, List.set_cons_succ]
        refine seqRead 13 (v := _) rfl (by kernel_rfl) (by kernel_rfl) (by kernel_rfl) (fun _ _ _ h => h) rfl (fun w hSw => execRow0 rfl _ rfl hSw.2.1 Tryd.underlying29 rfl infoR) hS ?_
        try simp only [Act.put, List.setIfInBounds_toArray, List.set_cons_zero, List.set_cons_succ]
        refine seqCall 11 rfl (by kernel_rfl) rfl (fun K hK => ?_)
        go_simp
        refine (HK1.out _).mono ?_
        rintro e w1 ⟨rfl, hw1⟩
        refine hK.out _ _ (PrS.below hw1 hS) (fun hS => ?_)
        clear hK K hw1
        try simp only [Act.put, List.setIfInBounds_toArray, List.set_cons_zero, List.set_cons_succ]
        refine seqCall 14 rfl (by kernel_rfl) rfl (fun K hK => ?_)
        go_simp
        refine (HK2.out _).mono ?_
        rintro e w1 ⟨rfl, hw1⟩
        refine hK.out _ _ (PrS.below hw1 hS) (fun hS => ?_)
        clear hK K hw1
        try simp only [Act.put, List.setIfInBounds_toArray, List.set_cons_zero, List.set_cons_succ]
        refine seqRead 15 (v := _) rfl (by kernel_rfl) (by kernel_rfl) (by kernel_rfl) (fun _ _ _ h => h) rfl (fun w hSw => by go_simp <;> with_reducible rfl) hS ?_
        try simp only [Act.put, List.setIfInBounds_toArray, List.set_cons_zero, List.set_cons_succ]
        refine seqRead 16 (v := _) rfl (by kernel_rfl) (by kernel_rfl) (by kernel_rfl) (fun _ _ _ h => h) rfl (fun w hSw => by go_simp <;> with_reducible rfl) hS ?_
        try simp only [Act.put, List.setIfInBounds_toArray, List.set_cons_zero, List.set_cons_succ]
        refine seqRead 17 (v := _) rfl (by kernel_rfl) (by kernel_rfl) (by kernel_rfl) (fun _ _ _ h => h) rfl (fun w hSw => by go_simp <;> with_reducible rfl) hS ?_
        try simp only [Act.put, List.setIfInBounds_toArray, List.set_cons_zero, List.set_cons_succ]
        refine seqRead 18 (v := _) rfl (by kernel_rfl) (by kernel_rfl) (by kernel_rfl) (fun _ _ _ h => h) rfl (fun w hSw => execRow0 rfl _ rfl hSw.1 Tryd.underlying29 rfl infoR) hS ?_
        try simp only [Act.put, List.setIfInBounds_toArray, List.set_cons_zero, List.set_cons_succ]
        refine seqRead 19 (v := _) rfl (by kernel_rfl) (by kernel_rfl) (by kernel_rfl) (fun _ _ _ h => h) rfl (fun w hSw => execRow0 rfl _ rfl hSw.2.1 Tryd.underlying29 rfl infoR) hS ?_
        try simp only [Act.put, List.setIfInBounds_toArray, List.set_cons_zero, List.set_cons_succ]
        refine seqRead 21 (v := _) rfl (by kernel_rfl) (by kernel_rfl) (by kernel_rfl) (fun _ _ _ h => h) rfl (fun w hSw => execRow0 rfl _ rfl hSw.1 Tryd.underlying29 rfl infoR) hS ?_
        try simp only [Act.put, List.setIfInBounds_toArray, List.set_cons_zero, List.set_cons_succ]
        refine seqRead 22 (v := _) rfl (by kernel_rfl) (by kernel_rfl) (by kernel_rfl) (fun _ _ _ h => h) rfl (fun w hSw => execRow0 rfl _ rfl hSw.2.1 Tryd.underlying29 rfl infoR) hS ?_
        try simp only [Act.put, List.setIfInBounds_toArray, List.set_cons_zero, List.set_cons_succ]
        refine seqCall 20 rfl (by kernel_rfl) rfl (fun K hK => ?_)
        go_simp
        refine (HB1.out _).mono ?_
        rintro e w1 ⟨rfl, hw1⟩
        refine hK.out _ _ (PrS.below hw1 hS) (fun hS => ?_)
        clear hK K hw1
        try simp only [Act.put, List.setIfInBounds_toArray, List.set_cons_zero, List.set_cons_succ]
        refine seqCall 23 rfl (by kernel_rfl) rfl (fun K hK => ?_)
        go_simp
        refine (HB2.out _).mono ?_
        rintro e w1 ⟨rfl, hw1⟩
        refine hK.out _ _ (PrS.below hw1 hS) (fun hS => ?_)
        clear hK K hw1
        try simp only [Act.put, List.setIfInBounds_toArray, List.set_cons_zero, List.set_cons_succ]
        refine seqRead 24 (v := _) rfl (by kernel_rfl) (by kernel_rfl) (by kernel_rfl) (fun _ _ _ h => h) rfl (fun w hSw => by go_simp <;> with_reducible rfl) hS ?_
        try simp only [Act.put, List.setIfInBounds_toArray, List.set_cons_zero, List.set_cons_succ]
        refine seqRead 25 (v := _) rfl (by kernel_rfl) (by kernel_rfl) (by kernel_rfl) (fun _ _ _ h => h) rfl (fun w hSw => by go_simp <;> with_reducible rfl) hS ?_
        try simp only [Act.put, List.setIfInBounds_toArray, List.set_cons_zero, List.set_cons_succ]
        refine seqRead 26 (v := _) rfl (by kernel_rfl) (by kernel_rfl) (by kernel_rfl) (fun _ _ _ h => h) rfl (fun w hSw => by go_simp <;> with_reducible rfl) hS ?_
        try simp only [Act.put, List.setIfInBounds_toArray, List.set_cons_zero, List.set_cons_succ]
        refine seqRead 27 (v := _) rfl (by kernel_rfl) (by kernel_rfl) (by kernel_rfl) (fun _ _ _ h => h) rfl (fun w hSw => execRow0 rfl _ rfl hSw.1 Tryd.underlying29 rfl infoR) hS ?_
        try simp only [Act.put, List.setIfInBounds_toArray, List.set_cons_zero, List.set_cons_succ]
        refine seqRead 28 (v := _) rfl (by kernel_rfl) (by kernel_rfl) (by kernel_rfl) (fun _ _ _ h => h) rfl (fun w hSw => execRow0 rfl _ rfl hSw.2.1 Tryd.underlying29 rfl infoR) hS ?_
        try simp only [Act.put, List.setIfInBounds_toArray, List.set_cons_zero, List.set_cons_succ]
        refine seqRead 30 (v := _) rfl (by kernel_rfl) (by kernel_rfl) (by kernel_rfl) (fun _ _ _ h => h) rfl (fun w hSw => execRow0 rfl _ rfl hSw.1 Tryd.underlying29 rfl infoR) hS ?_
        try simp only [Act.put, List.setIfInBounds_toArray, List.set_cons_zero, List.set_cons_succ]
        refine seqRead 31 (v := _) rfl (by kernel_rfl) (by kernel_rfl) (by kernel_rfl) (fun _ _ _ h => h) rfl (fun w hSw => execRow0 rfl _ rfl hSw.2.1 Tryd.underlying29 rfl infoR) hS ?_
        try simp only [Act.put, List.setIfInBounds_toArray, List.set_cons_zero, List.set_cons_succ]
        refine seqCall 29 rfl (by kernel_rfl) rfl (fun K hK => ?_)
        go_simp
        refine (HO1.out _ hS).mono ?_
        rintro e w1 ⟨rfl, hw1⟩
        refine hK.out _ _ (PrS.below hw1 hS) (fun hS => ?_)
        clear hK K hw1
        try simp only [Act.put, List.setIfInBounds_toArray, List.set_cons_zero, List.set_cons_succ]
        refine seqCall 32 rfl (by kernel_rfl) rfl (fun K hK => ?_)
        go_simp
        refine (HO2.out _).mono ?_
        rintro e w1 ⟨rfl, hw1⟩
        refine hK.out _ _ (PrS.below hw1 hS) (fun hS => ?_)
        clear hK K hw1
        try simp only [Act.put, List.setIfInBounds_toArray, List.set_cons_zero, List.set_cons_succ]
        refine seqRead 33 (v := _) rfl (by kernel_rfl) (by kernel_rfl) (by kernel_rfl) (fun _ _ _ h => h) rfl (fun w hSw => by go_simp <;> with_reducible rfl) hS ?_
        try simp only [Act.put, List.setIfInBounds_toArray, List.set_cons_zero, List.set_cons_succ]
        refine seqRead 34 (v := _) rfl (by kernel_rfl) (by kernel_rfl) (by kernel_rfl) (fun _ _ _ h => h) rfl (fun w hSw => by go_simp <;> with_reducible rfl) hS ?_
        try simp only [Act.put, List.setIfInBounds_toArray, List.set_cons_zero, List.set_cons_succ]
        refine seqRead 35 (v := _) rfl (by kernel_rfl) (by kernel_rfl) (by kernel_rfl) (fun _ _ _ h => h) rfl (fun w hSw => by go_simp <;> with_reducible rfl) hS ?_
        try simp only [Act.put, List.setIfInBounds_toArray, List.set_cons_zero, List.set_cons_succ]
        refine seqRead 36 (v := _) rfl (by kernel_rfl) (by kernel_rfl) (by kernel_rfl) (fun _ _ _ h => h) rfl (fun w hSw => execRow0 rfl _ rfl hSw.1 Tryd.underlying29 rfl infoR) hS ?_
        try simp only [Act.put, List.setIfInBounds_toArray, List.set_cons_zero, List.set_cons_succ]
        refine seqRead 37 (v := _) rfl (by kernel_rfl) (by kernel_rfl) (by kernel_rfl) (fun _ _ _ h => h) rfl (fun w hSw => execRow0 rfl _ rfl hSw.2.1 Tryd.underlying29 rfl infoR) hS ?_
        try simp only [Act.put, List.setIfInBounds_toArray, List.set_cons_zero, List.set_cons_succ]
        refine seqRead 39 (v := _) rfl (by kernel_rfl) (by kernel_rfl) (by kernel_rfl) (fun _ _ _ h => h) rfl (fun w hSw => execRow0 rfl _ rfl hSw.2.1 Tryd.underlying29 rfl infoR) hS ?_
        try simp only [Act.put, List.setIfInBounds_toArray, List.set_cons_zero, List.set_cons_succ]
        refine seqRead 40 (v := _) rfl (by kernel_rfl) (by kernel_rfl) (by kernel_rfl) (fun _ _ _ h => h) rfl (fun w hSw => execRow0 rfl _ rfl hSw.1 Tryd.underlying29 rfl infoR) hS ?_
        try simp only [Act.put, List.setIfInBounds_toArray, List.set_cons_zero, List.set_cons_succ]
        refine seqCall 38 rfl (by kernel_rfl) rfl (fun K hK => ?_)
        go_simp
        refine (HO1.out _ hS).mono ?_
        rintro e w1 ⟨rfl, hw1⟩
        refine hK.out _ _ (PrS.below hw1 hS) (fun hS => ?_)
        clear hK K hw1
        try simp only [Act.put, List.setIfInBounds_toArray, List.set_cons_zero, List.set_cons_succ]
        refine seqCall 41 rfl (by kernel_rfl) rfl (fun K hK => ?_)
        go_simp
        refine (HO3.out _ hS).mono ?_
        rintro e w1 ⟨rfl, hw1⟩
        refine hK.out _ _ (PrS.below hw1 hS) (fun hS => ?_)
        clear hK K hw1
        try simp only [Act.put, List.setIfInBounds_toArray, List.set_cons_zero, List.set_cons_succ]
        refine seqRead 42 (v := _) rfl (by kernel_rfl) (by kernel_rfl) (by kernel_rfl) (fun _ _ _ h => h) rfl (fun w hSw => by go_simp <;> with_reducible rfl) hS ?_
        try simp only [Act.put, List.setIfInBounds_toArray, List.set_cons_zero, List.set_cons_succ]
        refine seqRead 43 (v := _) rfl (by kernel_rfl) (by kernel_rfl) (by kernel_rfl) (fun _ _ _ h => h) rfl (fun w hSw => by go_simp <;> with_reducible rfl) hS ?_
        try simp only [Act.put, List.setIfInBounds_toArray, List.set_cons_zero, List.set_cons_succ]
        refine seqRead 44 (v := _) rfl (by kernel_rfl) (by kernel_rfl) (by kernel_rfl) (fun _ _ _ h => h) rfl (fun w hSw => by go_simp <;> with_reducible rfl) hS ?_
        try simp only [Act.put, List.setIfInBounds_toArray, List.set_cons_zero, List.set_cons_succ]
        refine seqRead 45 (v := _) rfl (by kernel_rfl) (by kernel_rfl) (by kernel_rfl) (fun _ _ _ h => h) rfl (fun w hSw => execRow0 rfl _ rfl hSw.1 Tryd.underlying29 rfl infoR) hS ?_
        try simp only [Act.put, List.setIfInBounds_toArray, List.set_cons_zero, List.set_cons_succ]
        refine seqRead 46 (v := _) rfl (by kernel_rfl) (by kernel_rfl) (by kernel_rfl) (fun _ _ _ h => h) rfl (fun w hSw => execRow0 rfl _ rfl hSw.2.1 Tryd.underlying29 rfl infoR) hS ?_
        try simp only [Act.put, List.setIfInBounds_toArray, List.set_cons_zero, List.set_cons_succ]
        refine seqCall 47 rfl (by kernel_rfl) rfl (fun K hK => ?_)
        go_simp
        refine (HB1.out _).mono ?_
        rintro e w1 ⟨rfl, hw1⟩
        refine hK.out _ _ (PrS.below hw1 hS) (fun hS => ?_)
        clear hK K hw1
        try simp only [Act.put, List.setIfInBounds_toArray, List.set_cons_zero, List.set_cons_succ]
        refine seqRead 48 (v := _) rfl (by kernel_rfl) (by kernel_rfl) (by kernel_rfl) (fun _ _ _ h => h) rfl (fun w hSw => by go_simp <;> with_reducible rfl) hS ?_
        try simp only [Act.put, List.setIfInBounds_toArray, List.set_cons_zero, List.set_cons_succ]
        refine seqRead 49 (v := _) rfl (by kernel_rfl) (by kernel_rfl) (by kernel_rfl) (fun _ _ _ h => h) rfl (fun w hSw => execRow0 rfl _ rfl hSw.2.1 Tryd.underlying29 rfl infoR) hS ?_
        try simp only [Act.put, List.setIfInBounds_toArray, List.set_cons_zero, List.set_cons_succ]
        refine seqRead 50 (v := _) rfl (by kernel_rfl) (by kernel_rfl) (by kernel_rfl) (fun _ _ _ h => h) rfl (fun w hSw => execRow0 rfl _ rfl hSw.1 Tryd.underlying29 rfl infoR) hS ?_
        try simp only [Act.put, List.setIfInBounds_toArray, List.set_cons_zero, List.set_cons_succ]
        refine seqCall 51 rfl (by kernel_rfl) rfl (fun K hK => ?_)
        go_simp
        refine (HB3.out _).mono ?_
        rintro e w1 ⟨rfl, hw1⟩
        refine hK.out _ _ (PrS.below hw1 hS) (fun hS => ?_)
        clear hK K hw1
        try simp only [Act.put, List.setIfInBounds_toArray, List.set_cons_zero, List.set_cons_succ]
        refine seqRead 52 (v := _) rfl (by kernel_rfl) (by kernel_rfl) (by kernel_rfl) (fun _ _ _ h => h) rfl (fun w hSw => by go_simp <;> with_reducible rfl) hS ?_
        try simp only [Act.put, List.setIfInBounds_toArray, List.set_cons_zero, List.set_cons_succ]
        refine seqRead 53 (v := _) rfl (by kernel_rfl) (by kernel_rfl) (by kernel_rfl) (fun _ _ _ h => h) rfl (fun w hSw => by go_simp <;> with_reducible rfl) hS ?_
        try simp only [Act.put, List.setIfInBounds_toArray, List.set_cons_zero, List.set_cons_succ]
        refine seqRead 54 (v := _) rfl (by kernel_rfl) (by kernel_rfl) (by kernel_rfl) (fun _ _ _ h => h) rfl (fun w hSw => by go_simp <;> with_reducible rfl) hS ?_
        try simp only [Act.put, List.setIfInBounds_toArray, List.set_cons_zero, List.set_cons_succ]
        refine seqRead 55 (v := _) rfl (by kernel_rfl) (by kernel_rfl) (by kernel_rfl) (fun _ _ _ h => h) rfl (fun w hSw => by go_simp <;> with_reducible rfl) hS ?_
        try simp only [Act.put, List.setIfInBounds_toArray, List.set_cons_zero, List.set_cons_succ]
        refine seqDone (by kernel_rfl) ?_
        have HF := Lib.hid hS.2.2.2.2.kept
        clear hS
        go_wp2_with fail
        go_ret
        exact ⟨rfl, HF.out⟩
      · rw [decide_eq_false hz1] at HB1 HB2
        clear hzz hz1
        go_enter Tryd.func3, Tryd.ntmps3
        go_upto_region 3 with fail
        refine wp_region_held_drew (S := PrS w0 a b) (by kernel_rfl) (PrS.below (Below.refl _ _).drew HS.out) (fun hS => ?_)
        clear HS ka kb
        generalize ((w0.alloc (.cells (rca a) 29)).alloc (.cells (rca b) 29)).drew = W at *
        refine seqCall 0 rfl (by kernel_rfl) rfl (fun K hK => ?_)
        go_simp
        refine (HA.out _ hS).mono ?_
        rintro e w1 ⟨rfl, hw1⟩
        refine hK.out _ _ (PrS.below hw1 hS) (fun hS => ?_)
        clear hK K hw1
        try simp only [Act.put, List.setIfInBounds_toArray, List.set_cons_zero, List.set_cons_succ]
        refine seqRead 1 (v := _) rfl (by kernel_rfl) (by kernel_rfl) (by kernel_rfl) (fun _ _ _ h => h) rfl (fun w hSw => by go_simp <;> with_reducible rfl) hS ?_
        try simp only [Act.put, List.setIfInBounds_toArray, List.set_cons_zero, List.set_cons_succ]
        refine seqRead 2 (v := _) rfl (by kernel_rfl) (by kernel_rfl) (by kernel_rfl) (fun _ _ _ h => h) rfl (fun w hSw => execRow0 rfl _ rfl hSw.1 Tryd.underlying29 rfl infoR) hS ?_
        try simp only [Act.put, List.setIfInBounds_toArray, List.set_cons_zero, List.set_cons_succ]
        refine seqRead 4 (v := _) rfl (by kernel_rfl) (by kernel_rfl) (by kernel_rfl) (fun _ _ _ h => h) rfl (fun w hSw => execRow0 rfl _ rfl hSw.1 Tryd.underlying29 rfl infoR) hS ?_
        try simp only [Act.put, List.setIfInBounds_toArray, List.set_cons_zero, List.set_cons_succ]
        refine seqCall 3 rfl (by kernel_rfl) rfl (fun K hK => ?_)
        go_simp
        refine (HS1.out _ hS).mono ?_
        rintro e w1 ⟨rfl, hw1⟩
        refine hK.out _ _ (PrS.below hw1 hS) (fun hS => ?_)
        clear hK K hw1
        try simp only [Act.put, List.setIfInBounds_toArray, List.set_cons_zero, List.set_cons_succ]
        refine seqCall 5 rfl (by kernel_rfl) rfl (fun K hK => ?_)
        go_simp
        refine (HS2.out _ hS).mono ?_
        rintro e w1 ⟨rfl, hw1⟩
        refine hK.out _ _ (PrS.below hw1 hS) (fun hS => ?_)
        clear hK K hw1
        try simp only [Act.put, List.setIfInBounds_toArray, List.set_cons_zero, List.set_cons_succ]
        refine seqRead 6 (v := _) rfl (by kernel_rfl) (by kernel_rfl) (by kernel_rfl) (fun _ _ _ h => h) rfl (fun w hSw => by go_simp <;> with_reducible rfl) hS ?_
        try simp only [Act.put, List.setIfInBounds_toArray, List.set_cons_zero, List.set_cons_succ]
        refine seqRead 7 (v := _) rfl (by kernel_rfl) (by kernel_rfl) (by kernel_rfl) (fun _ _ _ h => h) rfl (fun w hSw => by go_simp <;> with_reducible rfl) hS ?_
        try simp only [Act.put, List.setIfInBounds_toArray, List.set_cons_zero, List.set_cons_succ]
        refine seqRead 8 (v := _) rfl (by kernel_rfl) (by kernel_rfl) (by kernel_rfl) (fun _ _ _ h => h) rfl (fun w hSw => by go_simp <;> with_reducible rfl) hS ?_
        try simp only [Act.put, List.setIfInBounds_toArray, List.set_cons_zero, List.set_cons_succ]
        refine seqRead 9 (v := _) rfl (by kernel_rfl) (by kernel_rfl) (by kernel_rfl) (fun _ _ _ h => h) rfl (fun w hSw => execRow0 rfl _ rfl hSw.1 Tryd.underlying29 rfl infoR) hS ?_
        try simp only [Act.put, List.setIfInBounds_toArray, List.set_cons_zero, List.set_cons_succ]
        refine seqRead 10 (v := _) rfl (by kernel_rfl) (by kernel_rfl) (by kernel_rfl) (fun _ _ _ h => h) rfl (fun w hSw => execRow0 rfl _ rfl hSw.2.1 Tryd.underlying29 rfl infoR) hS ?_
        try simp only [Act.put, List.setIfInBounds_toArray, List.set_cons_zero, List.set_cons_succ]
        refine seqRead 12 (v := _) rfl (by kernel_rfl) (by kernel_rfl) (by kernel_rfl) (fun _ _ _ h => h) rfl (fun w hSw => execRow0 rfl _ rfl hSw.1 Tryd.underlying29 rfl infoR) hS ?_
        try simp only [Act.put, List.setIfInBounds_toArray, List.set_cons_zero, List.set_cons_succ]
        refine seqRead 13 (v := _) rfl (by kernel_rfl) (by kernel_rfl) (by kernel_rfl) (fun _ _ _ h => h) rfl (fun w hSw => execRow0 rfl _ rfl hSw.2.1 Tryd.underlying29 rfl infoR) hS ?_
        try simp only [Act.put, List.setIfInBounds_toArray, List.set_cons_zero, List.set_cons_succ]
        refine seqCall 11 rfl (by kernel_rfl) rfl (fun K hK => ?_)
        go_simp
        refine (HK1.out _).mono ?_
        rintro e w1 ⟨rfl, hw1⟩
        refine hK.out _ _ (PrS.below hw1 hS) (fun hS => ?_)
        clear hK K hw1
        try simp only [Act.put, List.setIfInBounds_toArray, List.set_cons_zero, List.set_cons_succ]
        refine seqCall 14 rfl (by kernel_rfl) rfl (fun K hK => ?_)
        go_simp
        refine (HK2.out _).mono ?_
        rintro e w1 ⟨rfl, hw1⟩
        refine hK.out _ _ (PrS.below hw1 hS) (fun hS => ?_)
        clear hK K hw1
        try simp only [Act.put, List.setIfInBounds_toArray, List.set_cons_zero, List.set_cons_succ]
        refine seqRead 15 (v := _) rfl (by kernel_rfl) (by kernel_rfl) (by kernel_rfl) (fun _ _ _ h => h) rfl (fun w hSw => by go_simp <;> with_reducible rfl) hS ?_
        try simp only [Act.put, List.setIfInBounds_toArray, List.set_cons_zero, List.set_cons_succ]
        refine seqRead 16 (v := _) rfl (by kernel_rfl) (by kernel_rfl) (by kernel_rfl) (fun _ _ _ h => h) rfl (fun w hSw => by go_simp <;> with_reducible rfl) hS ?_
        try simp only [Act.put, List.setIfInBounds_toArray, List.set_cons_zero, List.set_cons_succ]
        refine seqRead 17 (v := _) rfl (by kernel_rfl) (by kernel_rfl) (by kernel_rfl) (fun _ _ _ h => h) rfl (fun w hSw => by go_simp <;> with_reducible rfl) hS ?_
        try simp only [Act.put, List.setIfInBounds_toArray, List.set_cons_zero, List.set_cons_succ]
        refine seqRead 18 (v := _) rfl (by kernel_rfl) (by kernel_rfl) (by kernel_rfl) (fun _ _ _ h => h) rfl (fun w hSw => execRow0 rfl _ rfl hSw.1 Tryd.underlying29 rfl infoR) hS ?_
        try simp only [Act.put, List.setIfInBounds_toArray, List.set_cons_zero, List.set_cons_succ]
        refine seqRead 19 (v := _) rfl (by kernel_rfl) (by kernel_rfl) (by kernel_rfl) (fun _ _ _ h => h) rfl (fun w hSw => execRow0 rfl _ rfl hSw.2.1 Tryd.underlying29 rfl infoR) hS ?_
        try simp only [Act.put, List.setIfInBounds_toArray, List.set_cons_zero, List.set_cons_succ]
        refine seqRead 21 (v := _) rfl (by kernel_rfl) (by kernel_rfl) (by kernel_rfl) (fun _ _ _ h => h) rfl (fun w hSw => execRow0 rfl _ rfl hSw.1 Tryd.underlying29 rfl infoR) hS ?_
        try simp only [Act.put, List.setIfInBounds_toArray, List.set_cons_zero, List.set_cons_succ]
        refine seqRead 22 (v := _) rfl (by kernel_rfl) (by kernel_rfl) (by kernel_rfl) (fun _ _ _ h => h) rfl (fun w hSw => execRow0 rfl _ rfl hSw.2.1 Tryd.underlying29 rfl infoR) hS ?_
        try simp only [Act.put, List.setIfInBounds_toArray, List.set_cons_zero, List.set_cons_succ]
        refine seqCall 20 rfl (by kernel_rfl) rfl (fun K hK => ?_)
        go_simp
        refine (HB1.out _).mono ?_
        rintro e w1 ⟨rfl, hw1⟩
        refine hK.out _ _ (PrS.below hw1 hS) (fun hS => ?_)
        clear hK K hw1
        try simp only [Act.put, List.setIfInBounds_toArray, List.set_cons_zero, List.set_cons_succ]
        refine seqCall 23 rfl (by kernel_rfl) rfl (fun K hK => ?_)
        go_simp
        refine (HB2.out _).mono ?_
        rintro e w1 ⟨rfl, hw1⟩
        refine hK.out _ _ (PrS.below hw1 hS) (fun hS => ?_)
        clear hK K hw1
        try simp only [Act.put, List.setIfInBounds_toArray, List.set_cons_zero, List.set_cons_succ]
        refine seqRead 24 (v := _) rfl (by kernel_rfl) (by kernel_rfl) (by kernel_rfl) (fun _ _ _ h => h) rfl (fun w hSw => by go_simp <;> with_reducible rfl) hS ?_
        try simp only [Act.put, List.setIfInBounds_toArray, List.set_cons_zero, List.set_cons_succ]
        refine seqRead 25 (v := _) rfl (by kernel_rfl) (by kernel_rfl) (by kernel_rfl) (fun _ _ _ h => h) rfl (fun w hSw => by go_simp <;> with_reducible rfl) hS ?_
        try simp only [Act.put, List.setIfInBounds_toArray, List.set_cons_zero, List.set_cons_succ]
        refine seqRead 26 (v := _) rfl (by kernel_rfl) (by kernel_rfl) (by kernel_rfl) (fun _ _ _ h => h) rfl (fun w hSw => by go_simp <;> with_reducible rfl) hS ?_
        try simp only [Act.put, List.setIfInBounds_toArray, List.set_cons_zero, List.set_cons_succ]
        refine seqRead 27 (v := _) rfl (by kernel_rfl) (by kernel_rfl) (by kernel_rfl) (fun _ _ _ h => h) rfl (fun w hSw => execRow0 rfl _ rfl hSw.1 Tryd.underlying29 rfl infoR) hS ?_
        try simp only [Act.put, List.setIfInBounds_toArray, List.set_cons_zero, List.set_cons_succ]
        refine seqRead 28 (v := _) rfl (by kernel_rfl) (by kernel_rfl) (by kernel_rfl) (fun _ _ _ h => h) rfl (fun w hSw => execRow0 rfl _ rfl hSw.2.1 Tryd.underlying29 rfl infoR) hS ?_
        try simp only [Act.put, List.setIfInBounds_toArray, List.set_cons_zero, List.set_cons_succ]
        refine seqRead 30 (v := _) rfl (by kernel_rfl) (by kernel_rfl) (by kernel_rfl) (fun _ _ _ h => h) rfl (fun w hSw => execRow0 rfl _ rfl hSw.1 Tryd.underlying29 rfl infoR) hS ?_
        try simp only [Act.put, List.setIfInBounds_toArray, List.set_cons_zero, List.set_cons_succ]
        refine seqRead 31 (v := _) rfl (by kernel_rfl) (by kernel_rfl) (by kernel_rfl) (fun _ _ _ h => h) rfl (fun w hSw => execRow0 rfl _ rfl hSw.2.1 Tryd.underlying29 rfl infoR) hS ?_
        try simp only [Act.put, List.setIfInBounds_toArray, List.set_cons_zero, List.set_cons_succ]
        refine seqCall 29 rfl (by kernel_rfl) rfl (fun K hK => ?_)
        go_simp
        refine (HO1.out _ hS).mono ?_
        rintro e w1 ⟨rfl, hw1⟩
        refine hK.out _ _ (PrS.below hw1 hS) (fun hS => ?_)
        clear hK K hw1
        try simp only [Act.put, List.setIfInBounds_toArray, List.set_cons_zero, List.set_cons_succ]
        refine seqCall 32 rfl (by kernel_rfl) rfl (fun K hK => ?_)
        go_simp
        refine (HO2.out _).mono ?_
        rintro e w1 ⟨rfl, hw1⟩
        refine hK.out _ _ (PrS.below hw1 hS) (fun hS => ?_)
        clear hK K hw1
        try simp only [Act.put, List.setIfInBounds_toArray, List.set_cons_zero, List.set_cons_succ]
        refine seqRead 33 (v := _) rfl (by kernel_rfl) (by kernel_rfl) (by kernel_rfl) (fun _ _ _ h => h) rfl (fun w hSw => by go_simp <;> with_reducible rfl) hS ?_
        try simp only [Act.put, List.setIfInBounds_toArray, List.set_cons_zero, List.set_cons_succ]
        refine seqRead 34 (v := _) rfl (by kernel_rfl) (by kernel_rfl) (by kernel_rfl) (fun _ _ _ h => h) rfl (fun w hSw => by go_simp <;> with_reducible rfl) hS ?_
        try simp only [Act.put, List.setIfInBounds_toArray, List.set_cons_zero, List.set_cons_succ]
        refine seqRead 35 (v := _) rfl (by kernel_rfl) (by kernel_rfl) (by kernel_rfl) (fun _ _ _ h => h) rfl (fun w hSw => by go_simp <;> with_reducible rfl) hS ?_
        try simp only [Act.put, List.setIfInBounds_toArray, List.set_cons_zero, List.set_cons_succ]
        refine seqRead 36 (v := _) rfl (by kernel_rfl) (by kernel_rfl) (by kernel_rfl) (fun _ _ _ h => h) rfl (fun w hSw => execRow0 rfl _ rfl hSw.1 Tryd.underlying29 rfl infoR) hS ?_
        try simp only [Act.put, List.setIfInBounds_toArray, List.set_cons_zero, List.set_cons_succ]
        refine seqRead 37 (v := _) rfl (by kernel_rfl) (by kernel_rfl) (by kernel_rfl) (fun _ _ _ h => h) rfl (fun w hSw => execRow0 rfl _ rfl hSw.2.1 Tryd.underlying29 rfl infoR) hS ?_
        try simp only [Act.put, List.setIfInBounds_toArray, List.set_cons_zero, List.set_cons_succ]
        refine seqRead 39 (v := _) rfl (by kernel_rfl) (by kernel_rfl) (by kernel_rfl) (fun _ _ _ h => h) rfl (fun w hSw => execRow0 rfl _ rfl hSw.2.1 Tryd.underlying29 rfl infoR) hS ?_
        try simp only [Act.put, List.setIfInBounds_toArray, List.set_cons_zero, List.set_cons_succ]
        refine seqRead 40 (v := _) rfl (by kernel_rfl) (by kernel_rfl) (by kernel_rfl) (fun _ _ _ h => h) rfl (fun w hSw => execRow0 rfl _ rfl hSw.1 Tryd.underlying29 rfl infoR) hS ?_
        try simp only [Act.put, List.setIfInBounds_toArray, List.set_cons_zero, List.set_cons_succ]
        refine seqCall 38 rfl (by kernel_rfl) rfl (fun K hK => ?_)
        go_simp
        refine (HO1.out _ hS).mono ?_
        rintro e w1 ⟨rfl, hw1⟩
        refine hK.out _ _ (PrS.below hw1 hS) (fun hS => ?_)
        clear hK K hw1
        try simp only [Act.put, List.setIfInBounds_toArray, List.set_cons_zero, List.set_cons_succ]
        refine seqCall 41 rfl (by kernel_rfl) rfl (fun K hK => ?_)
        go_simp
        refine (HO3.out _ hS).mono ?_
        rintro e w1 ⟨rfl, hw1⟩
        refine hK.out _ _ (PrS.below hw1 hS) (fun hS => ?_)
        clear hK K hw1
        try simp only [Act.put, List.setIfInBounds_toArray, List.set_cons_zero, List.set_cons_succ]
        refine seqRead 42 (v := _) rfl (by kernel_rfl) (by kernel_rfl) (by kernel_rfl) (fun _ _ _ h => h) rfl (fun w hSw => by go_simp <;> with_reducible rfl) hS ?_
        try simp only [Act.put, List.setIfInBounds_toArray, List.set_cons_zero, List.set_cons_succ]
        refine seqRead 43 (v := _) rfl (by kernel_rfl) (by kernel_rfl) (by kernel_rfl) (fun _ _ _ h => h) rfl (fun w hSw => by go_simp <;> with_reducible rfl) hS ?_
        try simp only [Act.put, List.setIfInBounds_toArray, List.set_cons_zero, List.set_cons_succ]
        refine seqRead 44 (v := _) rfl (by kernel_rfl) (by kernel_rfl) (by kernel_rfl) (fun _ _ _ h => h) rfl (fun w hSw => by go_simp <;> with_reducible rfl) hS ?_
        try simp only [Act.put, List.setIfInBounds_toArray, List.set_cons_zero, List.set_cons_succ]
        refine seqRead 45 (v := _) rfl (by kernel_rfl) (by kernel_rfl) (by kernel_rfl) (fun _ _ _ h => h) rfl (fun w hSw => execRow0 rfl _ rfl hSw.1 Tryd.underlying29 rfl infoR) hS ?_
        try simp only [Act.put, List.setIfInBounds_toArray, List.set_cons_zero, List.set_cons_succ]
        refine seqRead 46 (v := _) rfl (by kernel_rfl) (by kernel_rfl) (by kernel_rfl) (fun _ _ _ h => h) rfl (fun w hSw => execRow0 rfl _ rfl hSw.2.1 Tryd.underlying29 rfl infoR) hS ?_
        try simp only [Act.put, List.setIfInBounds_toArray, List.set_cons_zero, List.set_cons_succ]
        refine seqCall 47 rfl (by kernel_rfl) rfl (fun K hK => ?_)
        go_simp
        refine (HB1.out _).mono ?_
        rintro e w1 ⟨rfl, hw1⟩
        refine hK.out _ _ (PrS.below hw1 hS) (fun hS => ?_)
        clear hK K hw1
        try simp only [Act.put, List.setIfInBounds_toArray, List.set_cons_zero, List.set_cons_succ]
        refine seqRead 48 (v := _) rfl (by kernel_rfl) (by kernel_rfl) (by kernel_rfl) (fun _ _ _ h => h) rfl (fun w hSw => by go_simp <;> with_reducible rfl) hS ?_
        try simp only [Act.put, List.setIfInBounds_toArray, List.set_cons_zero, List.set_cons_succ]
        refine seqSkip 49 rfl (by kernel_rfl) (by kernel_rfl) (by kernel_rfl) (fun _ _ _ h => h) rfl hS ?_
        try simp only [Act.put, List.setIfInBounds_toArray, List.set_cons_zero, List.set_cons_succ]
        refine seqSkip 50 rfl (by kernel_rfl) (by kernel_rfl) (by kernel_rfl) (fun _ _ _ h => h) rfl hS ?_
        try simp only [Act.put, List.setIfInBounds_toArray, List.set_cons_zero, List.set_cons_succ]
        refine seqSkip 51 rfl (by kernel_rfl) (by kernel_rfl) (by kernel_rfl) (fun _ _ _ h => h) rfl hS ?_
        try simp only [Act.put, List.setIfInBounds_toArray, List.set_cons_zero, List.set_cons_succ]
        refine seqRead 52 (v := _) rfl (by kernel_rfl) (by kernel_rfl) (by kernel_rfl) (fun _ _ _ h => h) rfl (fun w hSw => by go_simp <;> with_reducible rfl) hS ?_
        try simp only [Act.put, List.setIfInBounds_toArray, List.set_cons_zero, List.set_cons_succ]
        refine seqRead 53 (v := _) rfl (by kernel_rfl) (by kernel_rfl) (by kernel_rfl) (fun _ _ _ h => h) rfl (fun w hSw => by go_simp <;> with_reducible rfl) hS ?_
        try simp only [Act.put, List.setIfInBounds_toArray, List.set_cons_zero, List.set_cons_succ]
        refine seqRead 54 (v := _) rfl (by kernel_rfl) (by kernel_rfl) (by kernel_rfl) (fun _ _ _ h => h) rfl (fun w hSw => by go_simp <;> with_reducible rfl) hS ?_
        try simp only [Act.put, List.setIfInBounds_toArray, List.set_cons_zero, List.set_cons_succ]
        refine seqRead 55 (v := _) rfl (by kernel_rfl) (by kernel_rfl) (by kernel_rfl) (fun _ _ _ h => h) rfl (fun w hSw => by go_simp <;> with_reducible rfl) hS ?_
        try simp only [Act.put, List.setIfInBounds_toArray, List.set_cons_zero, List.set_cons_succ]
        refine seqDone (by kernel_rfl) ?_
        have HF := Lib.hid hS.2.2.2.2.kept
        clear hS
        go_wp2_with fail
        go_ret
        exact ⟨rfl, HF.out⟩
end Go.Proofs.YthalpnmejompdaaDoor
