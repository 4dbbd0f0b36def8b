/-
  The walks of slices.Equal over actions, of Same of package act, of the reference's SameActs.
-/
import Derived.Test.YtpcacgfhjheiiaaDoorActRrun
namespace Go.Proofs.YtpcacgfhjheiiaaDoor
open Go.RowKit

/-- two lists of actions lie in memory -/
def TwoS (v1 v2 : Value) (l k : List Ac) (W : World) : Prop := KLies KA v1 l W ∧ KLies KA v2 k W
theorem TwoS.below {v1 v2 : Value} {l k : List Ac} {W W' : World} (hb : Below W.heap.size W W') (h : TwoS v1 v2 l k W) : TwoS v1 v2 l k W' := ⟨h.1.below okA hb, h.2.below okA hb⟩
theorem ne_len {a b : Nat} (h : a ≠ b) : ((a : Int) != (b : Int)) = true := by simp; omega
theorem eq_len {a b : Nat} (h : a = b) : ((a : Int) != (b : Int)) = false := by simp; omega
set_option maxRecDepth 100000 in
set_option maxHeartbeats 2000000 in
theorem equal_any (v1 v2 : Value) (l k : List Ac) (hk : k.length ≤ 140737488355328) (w0 : World) (h1 : KLies KA v1 l w0) (h2 : KLies KA v2 k w0) :
    Calls Tryd.prog 20 #[v1, v2] w0 fun e w' => e = .returned (.bool (aEqL l k)) ∧ Below w0.heap.size w0 w' := by
  obtain ⟨p1, c1, rfl⟩ := h1.form
  obtain ⟨p2, c2, rfl⟩ := h2.form
  have HS := Lib.hid (show TwoS (.slice p1 l.length c1) (.slice p2 k.length c2) l k w0 from ⟨h1, h2⟩)
  clear h1 h2
  by_cases hlk : l.length = k.length
  · have hd := eq_len hlk
    have HLK := Lib.hid hlk
    clear hlk
    go_enter Tryd.func20, Tryd.ntmps20
    go_wp2_with fail
    clear hd
    go_loopg [13] l.length (fun kk i wr => ∃ r : Nat, r + kk = l.length ∧ i = .int .i64 r ∧ (∀ (j : Nat) a b, j < r → l[j]? = some a → k[j]? = some b → aEq a b = true) ∧ Below w0.heap.size w0 wr)
    case atStart => exact ⟨0, by omega, rfl, fun j _ _ h => absurd h (by omega), Below.refl _ _⟩
    case round =>
      obtain ⟨r, hr, rfl, hq, hb⟩ := hrel
      have HQ := Lib.hid hq
      have HB := Lib.hid hb
      clear hq hb
      by_cases hlt : r < l.length
      · have hltI : (r : Int) < (l.length : Int) := by omega
        have hltK : (r : Int) < (k.length : Int) := by have := HLK.out; omega
        obtain ⟨c, hc'⟩ := lt_some hlt
        obtain ⟨d, hd'⟩ := lt_some (show r < k.length by have := HLK.out; omega)
        have HS1 := Lib.hid (TwoS.below HB.out HS.out)
        obtain ⟨b1, o1, rfl, _⟩ := HS1.out.1.at hc'
        obtain ⟨b2, o2, rfl, _⟩ := HS1.out.2.at hd'
        have HC := Lib.hid (And.intro hc' hd')
        clear hc' hd'
        have hdI : decide ((r : Int) < (l.length : Int)) = true := decide_eq_true hltI
        go_upto_region 6 with (fail)
        refine wp_region_held_drew (S := TwoS (.slice (some ⟨b1, o1, none⟩) l.length c1) (.slice (some ⟨b2, o2, none⟩) k.length c2) l k) (by kernel_rfl) (TwoS.below (Below.refl _ _).drew HS1.out) (fun hS => ?_)
        have heq : ∀ w, (Op.equalIn 10000 38 (.agg (acl c).toArray) (.agg (acl d).toArray)).run Tryd.prog w = .ok (aEq c d) w := fun w => eql_act c d w
        have hgd := guardAct
        have HB1 := Lib.hid HB.out.drew
        clear HB HS1
        generalize wr.drew = W at *
        generalize hy : aEq c d = y at *
        refine seqRead 0 (v := _) rfl (by kernel_rfl) (by kernel_rfl) (by kernel_rfl) (fun _ _ _ h => h) rfl (fun w hSw => by go_simp <;> with_reducible rfl) hS ?_
        try simp only [Act.put, List.setIfInBounds_toArray, List.set_cons_zero, List.set_cons_succ]
        refine seqRead 1 (v := _) rfl (by kernel_rfl) (by kernel_rfl) (by kernel_rfl) (fun _ _ _ h => h) rfl (fun w hSw => by go_simp <;> with_reducible rfl) hS ?_
        try simp only [Act.put, List.setIfInBounds_toArray, List.set_cons_zero, List.set_cons_succ]
        refine seqRead 2 (v := _) rfl (by kernel_rfl) (by kernel_rfl) (by kernel_rfl) (fun _ _ _ h => h) rfl (fun w hSw => by go_simp <;> with_reducible rfl) hS ?_
        try simp only [Act.put, List.setIfInBounds_toArray, List.set_cons_zero, List.set_cons_succ]
        refine seqRead 3 (v := _) rfl (by kernel_rfl) (by kernel_rfl) (by kernel_rfl) (fun _ _ _ h => h) rfl (fun w hSw => execRow rfl b1 (o1 + r * 4) rfl (acl c) _ (hSw.1.at' HC.out.1) Tryd.underlying38 rfl infoA) hS ?_
        try simp only [Act.put, List.setIfInBounds_toArray, List.set_cons_zero, List.set_cons_succ]
        refine seqRead 4 (v := _) rfl (by kernel_rfl) (by kernel_rfl) (by kernel_rfl) (fun _ _ _ h => h) rfl (fun w hSw => by go_simp <;> with_reducible rfl) hS ?_
        try simp only [Act.put, List.setIfInBounds_toArray, List.set_cons_zero, List.set_cons_succ]
        refine seqRead 5 (v := _) rfl (by kernel_rfl) (by kernel_rfl) (by kernel_rfl) (fun _ _ _ h => h) rfl (fun w hSw => by go_simp <;> with_reducible rfl) hS ?_
        try simp only [Act.put, List.setIfInBounds_toArray, List.set_cons_zero, List.set_cons_succ]
        refine seqRead 6 (v := _) rfl (by kernel_rfl) (by kernel_rfl) (by kernel_rfl) (fun _ _ _ h => h) rfl (fun w hSw => by go_simp <;> with_reducible rfl) hS ?_
        try simp only [Act.put, List.setIfInBounds_toArray, List.set_cons_zero, List.set_cons_succ]
        refine seqRead 7 (v := _) rfl (by kernel_rfl) (by kernel_rfl) (by kernel_rfl) (fun _ _ _ h => h) rfl (fun w hSw => execRow rfl b2 (o2 + r * 4) rfl (acl d) _ (hSw.2.at' HC.out.2) Tryd.underlying38 rfl infoA) hS ?_
        try simp only [Act.put, List.setIfInBounds_toArray, List.set_cons_zero, List.set_cons_succ]
        refine seqRead 8 (v := _) rfl (by kernel_rfl) (by kernel_rfl) (by kernel_rfl) (fun _ _ _ h => h) rfl (fun w hSw => by go_simp <;> with_reducible rfl) hS ?_
        try simp only [Act.put, List.setIfInBounds_toArray, List.set_cons_zero, List.set_cons_succ]
        refine seqDone (by kernel_rfl) ?_
        clear hS heq hgd hdI
        cases y
        · have HN := Lib.hid (aEqL_ne HC.out.1 HC.out.2 hy)
          clear hy
          go_wp2_with fail
          go_ret
          exact ⟨ret_bool HN.out.symm, HB1.out⟩
        · have HY := Lib.hid hy
          clear hy
          go_wp2_with fail
          go_roundg (l.length - (r + 1))
          case measure => omega
          case rel =>
            refine ⟨r + 1, by omega, by go_num, fun j a b hj ha hb => ?_, HB1.out⟩
            by_cases e : j = r
            · subst e
              rw [HC.out.1] at ha
              rw [HC.out.2] at hb
              rw [← Option.some.inj ha, ← Option.some.inj hb]
              exact HY.out
            · exact HQ.out j a b (by omega) ha hb
      · have hltI : ¬ (r : Int) < (l.length : Int) := by omega
        have HN := Lib.hid (aEqL_yes HLK.out fun j a b ha hb => HQ.out j a b (by have := (List.getElem?_eq_some_iff.1 ha).1; omega) ha hb)
        go_wp2_with fail
        go_ret
        exact ⟨ret_bool HN.out.symm, HB.out⟩
  · have hd := ne_len hlk
    have HN := Lib.hid (aEqL_len hlk)
    clear hlk
    go_enter Tryd.func20, Tryd.ntmps20
    go_wp2_with fail
    go_ret
    exact ⟨ret_bool HN.out.symm, Below.refl _ _⟩
set_option maxRecDepth 100000 in
set_option maxHeartbeats 2000000 in
theorem rsameA_any (v1 v2 : Value) (l k : List Ac) (hk : k.length ≤ 140737488355328) (w0 : World) (h1 : KLies KA v1 l w0) (h2 : KLies KA v2 k w0) :
    Calls Tryd.prog 14 #[v1, v2] w0 fun e w' => e = .returned (.bool (aEqL l k)) ∧ Below w0.heap.size w0 w' := by
  obtain ⟨p1, c1, rfl⟩ := h1.form
  obtain ⟨p2, c2, rfl⟩ := h2.form
  have HS := Lib.hid (show TwoS (.slice p1 l.length c1) (.slice p2 k.length c2) l k w0 from ⟨h1, h2⟩)
  clear h1 h2
  by_cases hlk : l.length = k.length
  · have hd := eq_len hlk
    have HLK := Lib.hid hlk
    clear hlk
    go_enter Tryd.func14, Tryd.ntmps14
    go_wp2_with fail
    clear hd
    go_loopg [5] l.length (fun kk i wr => ∃ r : Nat, r + kk = l.length ∧ i = .int .i64 r ∧ (∀ (j : Nat) a b, j < r → l[j]? = some a → k[j]? = some b → aEq a b = true) ∧ Below w0.heap.size w0 wr)
    case atStart => exact ⟨0, by omega, rfl, fun j _ _ h => absurd h (by omega), Below.refl _ _⟩
    case round =>
      obtain ⟨r, hr, rfl, hq, hb⟩ := hrel
      have HQ := Lib.hid hq
      have HB := Lib.hid hb
      clear hq hb
      by_cases hlt : r < l.length
      · have hltI : (r : Int) < (l.length : Int) := by omega
        have hltK : (r : Int) < (k.length : Int) := by have := HLK.out; omega
        obtain ⟨c, hc'⟩ := lt_some hlt
        obtain ⟨d, hd'⟩ := lt_some (show r < k.length by have := HLK.out; omega)
        have HS1 := Lib.hid (TwoS.below HB.out HS.out)
        obtain ⟨b1, o1, rfl, _⟩ := HS1.out.1.at hc'
        obtain ⟨b2, o2, rfl, _⟩ := HS1.out.2.at hd'
        have HC := Lib.hid (And.intro hc' hd')
        clear hc' hd'
        have hdI : decide ((r : Int) < (l.length : Int)) = true := decide_eq_true hltI
        go_upto_region 6 with (fail)
        refine wp_region_held_drew (S := TwoS (.slice (some ⟨b1, o1, none⟩) l.length c1) (.slice (some ⟨b2, o2, none⟩) k.length c2) l k) (by kernel_rfl) (TwoS.below (Below.refl _ _).drew HS1.out) (fun hS => ?_)
        have heq : ∀ w, (Op.equalIn 10000 38 (.agg (acl c).toArray) (.agg (acl d).toArray)).run Tryd.prog w = .ok (aEq c d) w := fun w => eql_act c d w
        have hgd := guardAct
        have HB1 := Lib.hid HB.out.drew
        clear HB HS1
        generalize wr.drew = W at *
        generalize hy : aEq c d = y at *
        refine seqRead 0 (v := _) rfl (by kernel_rfl) (by kernel_rfl) (by kernel_rfl) (fun _ _ _ h => h) rfl (fun w hSw => by go_simp <;> with_reducible rfl) hS ?_
        try simp only [Act.put, List.setIfInBounds_toArray, List.set_cons_zero, List.set_cons_succ]
        refine seqRead 1 (v := _) rfl (by kernel_rfl) (by kernel_rfl) (by kernel_rfl) (fun _ _ _ h => h) rfl (fun w hSw => by go_simp <;> with_reducible rfl) hS ?_
        try simp only [Act.put, List.setIfInBounds_toArray, List.set_cons_zero, List.set_cons_succ]
        refine seqRead 2 (v := _) rfl (by kernel_rfl) (by kernel_rfl) (by kernel_rfl) (fun _ _ _ h => h) rfl (fun w hSw => by go_simp <;> with_reducible rfl) hS ?_
        try simp only [Act.put, List.setIfInBounds_toArray, List.set_cons_zero, List.set_cons_succ]
        refine seqRead 3 (v := _) rfl (by kernel_rfl) (by kernel_rfl) (by kernel_rfl) (fun _ _ _ h => h) rfl (fun w hSw => execRow rfl b1 (o1 + r * 4) rfl (acl c) _ (hSw.1.at' HC.out.1) Tryd.underlying38 rfl infoA) hS ?_
        try simp only [Act.put, List.setIfInBounds_toArray, List.set_cons_zero, List.set_cons_succ]
        refine seqRead 4 (v := _) rfl (by kernel_rfl) (by kernel_rfl) (by kernel_rfl) (fun _ _ _ h => h) rfl (fun w hSw => by go_simp <;> with_reducible rfl) hS ?_
        try simp only [Act.put, List.setIfInBounds_toArray, List.set_cons_zero, List.set_cons_succ]
        refine seqRead 5 (v := _) rfl (by kernel_rfl) (by kernel_rfl) (by kernel_rfl) (fun _ _ _ h => h) rfl (fun w hSw => by go_simp <;> with_reducible rfl) hS ?_
        try simp only [Act.put, List.setIfInBounds_toArray, List.set_cons_zero, List.set_cons_succ]
        refine seqRead 6 (v := _) rfl (by kernel_rfl) (by kernel_rfl) (by kernel_rfl) (fun _ _ _ h => h) rfl (fun w hSw => by go_simp <;> with_reducible rfl) hS ?_
        try simp only [Act.put, List.setIfInBounds_toArray, List.set_cons_zero, List.set_cons_succ]
        refine seqRead 7 (v := _) rfl (by kernel_rfl) (by kernel_rfl) (by kernel_rfl) (fun _ _ _ h => h) rfl (fun w hSw => execRow rfl b2 (o2 + r * 4) rfl (acl d) _ (hSw.2.at' HC.out.2) Tryd.underlying38 rfl infoA) hS ?_
        try simp only [Act.put, List.setIfInBounds_toArray, List.set_cons_zero, List.set_cons_succ]
        refine seqRead 8 (v := _) rfl (by kernel_rfl) (by kernel_rfl) (by kernel_rfl) (fun _ _ _ h => h) rfl (fun w hSw => by go_simp <;> with_reducible rfl) hS ?_
        try simp only [Act.put, List.setIfInBounds_toArray, List.set_cons_zero, List.set_cons_succ]
        refine seqDone (by kernel_rfl) ?_
        clear hS heq hgd hdI
        cases y
        · have HN := Lib.hid (aEqL_ne HC.out.1 HC.out.2 hy)
          clear hy
          go_wp2_with fail
          go_ret
          exact ⟨ret_bool HN.out.symm, HB1.out⟩
        · have HY := Lib.hid hy
          clear hy
          go_wp2_with fail
          go_roundg (l.length - (r + 1))
          case measure => omega
          case rel =>
            refine ⟨r + 1, by omega, by go_num, fun j a b hj ha hb => ?_, HB1.out⟩
            by_cases e : j = r
            · subst e
              rw [HC.out.1] at ha
              rw [HC.out.2] at hb
              rw [← Option.some.inj ha, ← Option.some.inj hb]
              exact HY.out
            · exact HQ.out j a b (by omega) ha hb
      · have hltI : ¬ (r : Int) < (l.length : Int) := by omega
        have HN := Lib.hid (aEqL_yes HLK.out fun j a b ha hb => HQ.out j a b (by have := (List.getElem?_eq_some_iff.1 ha).1; omega) ha hb)
        go_wp2_with fail
        go_ret
        exact ⟨ret_bool HN.out.symm, HB.out⟩
  · have hd := ne_len hlk
    have HN := Lib.hid (aEqL_len hlk)
    clear hlk
    go_enter Tryd.func14, Tryd.ntmps14
    go_wp2_with fail
    go_ret
    exact ⟨ret_bool HN.out.symm, Below.refl _ _⟩
theorem asame_any (v1 v2 : Value) (l k : List Ac) (hk : k.length ≤ 140737488355328) (w0 : World) (h1 : KLies KA v1 l w0) (h2 : KLies KA v2 k w0) :
    Calls Tryd.prog 13 #[v1, v2] w0 fun e w' => e = .returned (.bool (aEqL l k)) ∧ Below w0.heap.size w0 w' := by
  have HE := Lib.hid (equal_any v1 v2 l k hk w0 h1 h2)
  obtain ⟨p1, c1, rfl⟩ := h1.form
  obtain ⟨p2, c2, rfl⟩ := h2.form
  clear h1 h2
  go_enter Tryd.func13, Tryd.ntmps13
  go_wp2_with (go_at_call 20; refine HE.out.mono ?_; rintro e w1 ⟨rfl, hw1⟩)
  go_ret
  exact ⟨rfl, hw1⟩
end Go.Proofs.YtpcacgfhjheiiaaDoor
