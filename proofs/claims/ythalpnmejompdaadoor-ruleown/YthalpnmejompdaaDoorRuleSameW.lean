/-
  The walk of the law RuleSame.
-/
import Derived.Test.YthalpnmejompdaaDoorRuleAns
import Derived.Test.YthalpnmejompdaaDoorRuleEql
namespace Go.Proofs.YthalpnmejompdaaDoor
open Go.RowKit

set_option maxRecDepth 100000 in
set_option maxHeartbeats 2000000 in
theorem ruleSame_any (v1 : Value) (a : List Rm) (wa : WfRL a) (la : a.length ≤ 140737488355328) (v2 : Value) (b : List Rm) (wb : WfRL b) (lb : b.length ≤ 140737488355328) (w0 : World) (h1 : RLies v1 a w0) (h2 : RLies v2 b w0) (ht : Tab w0) (hz : 0 < w0.heap.size) :
    Calls Tryd.prog 6 #[v1, v2] w0 fun e w' => e = .returned (.bool true) ∧ Below w0.heap.size w0 w' := by
  obtain ⟨p1, c1, rfl⟩ := h1.1.form
  obtain ⟨p2, c2, rfl⟩ := h2.1.form
  have H0 := Lib.hid (show SmS w0 (.slice p1 a.length c1) (.slice p2 b.length c2) a b w0 from ⟨h1, h2, Below.refl _ _⟩)
  have HE := Lib.hid (fun (W : World) (hb : Below w0.heap.size w0 W) => (Env.start ht hz).predK W hb)
  have HA := Lib.hid (fun (W : World) (hS : SmS w0 (.slice p1 a.length c1) (.slice p2 b.length c2) a b W) => ranswers W (HE.out W hS.2.2).1 (HE.out W hS.2.2).2)
  clear ht h1 h2
  by_cases n1 : 40 < a.length
  · have n1I : (40 : Int) < (a.length : Int) := by omega
    go_enter Tryd.func6, Tryd.ntmps6
    go_wp2_with (go_at_call 10; refine (HA.out _ H0.out).mono ?_; rintro e w1 ⟨rfl, hw1⟩)
    go_ret
    exact ⟨rfl, (SmS.below hw1 H0.out).2.2⟩
  · have n1I : ¬ (40 : Int) < (a.length : Int) := by omega
    by_cases n2 : 40 < b.length
    · have n2I : (40 : Int) < (b.length : Int) := by omega
      go_enter Tryd.func6, Tryd.ntmps6
      go_wp2_with (go_at_call 10; refine (HA.out _ H0.out).mono ?_; rintro e w1 ⟨rfl, hw1⟩)
      go_ret
      exact ⟨rfl, (SmS.below hw1 H0.out).2.2⟩
    · have n2I : ¬ (40 : Int) < (b.length : Int) := by omega
      have C1 := Lib.hid (fun (W : World) (hS : SmS w0 (.slice p1 a.length c1) (.slice p2 b.length c2) a b W) => same_rules _ _ a b (by omega) wb W hS.1 hS.2.1)
      have C2 := Lib.hid (fun (W : World) (hS : SmS w0 (.slice p1 a.length c1) (.slice p2 b.length c2) a b W) => rsame_rules _ _ a b (by omega) wb W hS.1 hS.2.1)
      have C3 := Lib.hid (fun (W : World) (hS : SmS w0 (.slice p1 a.length c1) (.slice p2 b.length c2) a b W) => same_rules _ _ a a (by omega) wa W hS.1 hS.1)
      have C4 := Lib.hid (fun (W : World) (hS : SmS w0 (.slice p1 a.length c1) (.slice p2 b.length c2) a b W) => same_rules _ _ b a (by omega) wa W hS.2.1 hS.1)
      rw [sameL_self] at C3
      rw [sameL_symm] at C4
      clear wa wb HE
      generalize sameL (a.map (·.u)) (b.map (·.u)) = y at *
      go_enter Tryd.func6, Tryd.ntmps6
      go_wp2_with (go_at_call 10; refine (HA.out _ H0.out).mono ?_; rintro e w1 ⟨rfl, hw1⟩; refine Hid.out ?_)
      have H1 := Lib.hid (SmS.below hw1 H0.out)
      clear hw1 H0
      refine Lib.hid ?_
      go_wp2_with (go_at_call 25; refine (C1.out _ H1.out).mono ?_; rintro e w2 ⟨rfl, hw2⟩; refine Hid.out ?_)
      have H2 := Lib.hid (SmS.below hw2 H1.out)
      clear hw2 H1
      refine Lib.hid ?_
      go_wp2_with (go_at_call 23; refine (C2.out _ H2.out).mono ?_; rintro e w3 ⟨rfl, hw3⟩; refine Hid.out ?_)
      have H3 := Lib.hid (SmS.below hw3 H2.out)
      clear hw3 H2
      refine Lib.hid ?_
      go_wp2_with (go_at_call 25; refine (C3.out _ H3.out).mono ?_; rintro e w4 ⟨rfl, hw4⟩; refine Hid.out ?_)
      have H4 := Lib.hid (SmS.below hw4 H3.out)
      clear hw4 H3
      refine Lib.hid ?_
      go_wp2_with (go_at_call 25; refine (C1.out _ H4.out).mono ?_; rintro e w5 ⟨rfl, hw5⟩; refine Hid.out ?_)
      have H5 := Lib.hid (SmS.below hw5 H4.out)
      clear hw5 H4
      refine Lib.hid ?_
      go_wp2_with (go_at_call 25; refine (C4.out _ H5.out).mono ?_; rintro e w6 ⟨rfl, hw6⟩)
      have H6 := Lib.hid (SmS.below hw6 H5.out)
      clear hw6 H5
      go_ret
      exact ⟨rfl, H6.out.2.2⟩
end Go.Proofs.YthalpnmejompdaaDoor
