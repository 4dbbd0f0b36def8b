/-
  The walks of the reference's Space and SameCubes.
-/
import Derived.Test.YtamjaohoicedfaaDoorSpaceAns
namespace Go.Proofs.YtamjaohoicedfaaDoor
open Go.RowKit

set_option maxHeartbeats 1000000 in
theorem rspace_all (p : Option Addr) (cap : Nat) (l : List (Nat → Int)) (hlen : l.length ≤ 1000000) (hw : WfL l) (w : World) (hl : Lies (.slice p l.length cap) l w) :
    Calls Tryd.prog 11 #[.slice p l.length cap] w fun e w' => e = .returned (.bool (sndL l)) ∧ Below w.heap.size w w' := by
  have HL := Lib.hid hl
  have HW := Lib.hid hw
  have HY := Lib.hid (show (∀ j, j < l.length → csnd (nth l j) = true) → sndL l = decide (l.length ≤ 64) from fun h => by
    unfold sndL
    have : l.all csnd = true := by
      rw [List.all_eq_true]
      intro x hx
      obtain ⟨j, hj, rfl⟩ := List.mem_iff_getElem.1 hx
      have := h j hj
      rwa [nth, List.getD_eq_getElem?_getD, List.getElem?_eq_getElem hj] at this
    rw [this, Bool.and_true])
  have HN := Lib.hid (show ∀ j, j < l.length → csnd (nth l j) = false → sndL l = false from fun j hj h => by
    unfold sndL
    have : l.all csnd = false := by
      rw [List.all_eq_false]
      exact ⟨nth l j, nth_mem hj, by rw [h]; simp⟩
    rw [this, Bool.and_false])
  clear hl hw
  generalize sndL l = y at *
  go_enter Tryd.func11, Tryd.ntmps11
  go_wp2
  go_loopg [3] l.length (fun k i wr => ∃ r : Nat, r + k = l.length ∧ i = .int .i64 r ∧ (∀ j, j < r → csnd (nth l j) = true) ∧ Below w.heap.size w wr)
  case atStart => exact ⟨0, by omega, rfl, fun j h => absurd h (by omega), Below.refl _ _⟩
  case round =>
    obtain ⟨r, hr, rfl, hq, hb⟩ := hrel
    have HQ := Lib.hid hq
    have HB := Lib.hid hb
    clear hq hb
    by_cases hlt : r < l.length
    · have hltI : (r : Int) < (l.length : Int) := by omega
      obtain ⟨b, o, rfl, hrg⟩ := (HL.out.below HB.out).at hlt
      have HR := Lib.hid hrg
      have HC := Lib.hid (rcube_any (nth l r) (HW.out.nth hlt) wr)
      clear hrg
      cases hq : csnd (nth l r)
      · rw [hq] at HC
        have HH := Lib.hid (HN.out r hlt hq)
        clear hq
        go_wp2_with (first
          | (refine wpList_load_mid rfl 30 (.tmp 12) rfl b (o + r * 24) rfl (cl (nth l r)) _ HR.out Tryd.underlying30 rfl infoCube ?_)
          | (go_at_call 26; refine HC.out.mono ?_; rintro e w1 ⟨rfl, hw1⟩))
        have HB1 := Lib.hid (HB.out.trans (hw1.mono HB.out.size))
        clear hw1 HC HR
        go_ret
        exact ⟨ret_bool HH.out.symm, HB1.out⟩
      · rw [hq] at HC
        have HH := Lib.hid hq
        clear hq
        go_wp2_with (first
          | (refine wpList_load_mid rfl 30 (.tmp 12) rfl b (o + r * 24) rfl (cl (nth l r)) _ HR.out Tryd.underlying30 rfl infoCube ?_)
          | (go_at_call 26; refine HC.out.mono ?_; rintro e w1 ⟨rfl, hw1⟩))
        have HB1 := Lib.hid (HB.out.trans (hw1.mono HB.out.size))
        clear hw1 HC HR
        go_roundg (l.length - (r + 1))
        case measure => omega
        case rel =>
          refine ⟨r + 1, by omega, by go_num, fun j hj => ?_, HB1.out⟩
          by_cases e : j = r
          · rw [e]; exact HH.out
          · exact HQ.out j (by omega)
    · have hltI : ¬ (r : Int) < (l.length : Int) := by omega
      have hy := HY.out fun j hj => HQ.out j (by omega)
      have hd : decide ((l.length : Int) ≤ 64) = decide (l.length ≤ 64) := by rw [Bool.eq_iff_iff, decide_eq_true_eq, decide_eq_true_eq]; omega
      have HH := Lib.hid (hy.trans hd.symm)
      clear hy hd
      go_wp2
      go_ret
      exact ⟨ret_bool HH.out.symm, HB.out⟩
theorem rspace_any (v : Value) (l : List (Nat → Int)) (hlen : l.length ≤ 1000000) (hw : WfL l) (w : World) (hl : Lies v l w) :
    Calls Tryd.prog 11 #[v] w fun e w' => e = .returned (.bool (sndL l)) ∧ Below w.heap.size w w' := by
  obtain ⟨p, cap, rfl⟩ := hl.form
  exact rspace_all p cap l hlen hw w hl
/-- two slices lie in memory -/
def SamL (w : World) (v1 v2 : Value) (l k : List (Nat → Int)) (W : World) : Prop := Lies v1 l W ∧ Lies v2 k W ∧ Below w.heap.size w W
theorem SamL.below {w : World} {v1 v2 : Value} {l k : List (Nat → Int)} {W W' : World} (hb : Below W.heap.size W W') (s : SamL w v1 v2 l k W) : SamL w v1 v2 l k W' := ⟨s.1.below hb, s.2.1.below hb, s.2.2.trans (hb.mono s.2.2.size)⟩
set_option maxHeartbeats 1000000 in
theorem sameL_all (l k : List (Nat → Int)) (p1 p2 : Option Addr) (c1 c2 : Nat) (hn : l.length ≤ 1000000) (hlk : k.length = l.length) (heq0 : ∀ i, i < l.length → cEq (nth l i) (nth k i) = true) (w : World) (h1 : Lies (.slice p1 l.length c1) l w) (h2 : Lies (.slice p2 l.length c2) k w) :
    Calls Tryd.prog 13 #[.slice p1 l.length c1, .slice p2 l.length c2] w fun e w' => e = .returned (.bool true) ∧ Below w.heap.size w w' := by
  have S0 := Lib.hid (show SamL w (.slice p1 l.length c1) (.slice p2 l.length c2) l k w from ⟨h1, h2, Below.refl _ _⟩)
  have HEq := Lib.hid heq0
  clear h1 h2 heq0
  have hbn : ((l.length : Int) != (l.length : Int)) = false := by simp
  have hgd := guardCube
  go_enter Tryd.func13, Tryd.ntmps13
  go_wp2_with fail
  clear hbn
  go_loopg [5] l.length (fun kk i wr => ∃ r : Nat, r + kk = l.length ∧ i = .int .i64 r ∧ SamL w (.slice p1 l.length c1) (.slice p2 l.length c2) l k wr)
  case atStart => exact ⟨0, by omega, rfl, S0.out⟩
  case round =>
    clear S0
    obtain ⟨r, hr, rfl, hS⟩ := hrel
    by_cases hlt : r < l.length
    · have hltI : (r : Int) < (l.length : Int) := by omega
      have hdI : decide ((r : Int) < (l.length : Int)) = true := decide_eq_true hltI
      obtain ⟨g1, o1, rfl, _⟩ := hS.1.at hlt
      obtain ⟨g2, o2, rfl, _⟩ := hS.2.1.at (show r < k.length by omega)
      have HS := Lib.hid hS
      have hlk' : r < k.length := by omega
      clear hS
      have heq : ∀ w, (Op.equalIn 10000 30 (.agg (cl (nth l r)).toArray) (.agg (cl (nth k r)).toArray)).run Tryd.prog w = .ok true w := fun w => (eql_cube (nth l r) (nth k r) w).trans (by rw [HEq.out r hlt])
      go_wp2_with fail
      refine wp_region_held_drew (S := SamL w (.slice (some ⟨g1, o1, none⟩) l.length c1) (.slice (some ⟨g2, o2, none⟩) l.length c2) l k) (by kernel_rfl) (SamL.below (Below.refl _ _).drew HS.out) (fun hS => ?_)
      clear HS
      refine seqRead 0 (v := _) rfl (by kernel_rfl) (by kernel_rfl) (by kernel_rfl) (fun _ _ _ h => h) rfl (fun w hSw => by go_simp <;> with_reducible rfl) hS ?_
      try simp only [Act.put, List.setIfInBounds_toArray, List.set_cons_zero, List.set_cons_succ]
      refine seqRead 1 (v := _) rfl (by kernel_rfl) (by kernel_rfl) (by kernel_rfl) (fun _ _ _ h => h) rfl (fun w hSw => by go_simp <;> with_reducible rfl) hS ?_
      try simp only [Act.put, List.setIfInBounds_toArray, List.set_cons_zero, List.set_cons_succ]
      refine seqRead 2 (v := _) rfl (by kernel_rfl) (by kernel_rfl) (by kernel_rfl) (fun _ _ _ h => h) rfl (fun w hSw => by go_simp <;> with_reducible rfl) hS ?_
      try simp only [Act.put, List.setIfInBounds_toArray, List.set_cons_zero, List.set_cons_succ]
      refine seqRead 3 (v := _) rfl (by kernel_rfl) (by kernel_rfl) (by kernel_rfl) (fun _ _ _ h => h) rfl (fun w hSw => execRow rfl g1 (o1 + r * 24) rfl (cl (nth l r)) _ (hSw.1.at' hlt) Tryd.underlying30 rfl infoCube) hS ?_
      try simp only [Act.put, List.setIfInBounds_toArray, List.set_cons_zero, List.set_cons_succ]
      refine seqRead 4 (v := _) rfl (by kernel_rfl) (by kernel_rfl) (by kernel_rfl) (fun _ _ _ h => h) rfl (fun w hSw => by go_simp <;> with_reducible rfl) hS ?_
      try simp only [Act.put, List.setIfInBounds_toArray, List.set_cons_zero, List.set_cons_succ]
      refine seqRead 5 (v := _) rfl (by kernel_rfl) (by kernel_rfl) (by kernel_rfl) (fun _ _ _ h => h) rfl (fun w hSw => by go_simp <;> with_reducible rfl) hS ?_
      try simp only [Act.put, List.setIfInBounds_toArray, List.set_cons_zero, List.set_cons_succ]
      refine seqRead 6 (v := _) rfl (by kernel_rfl) (by kernel_rfl) (by kernel_rfl) (fun _ _ _ h => h) rfl (fun w hSw => by go_simp <;> with_reducible rfl) hS ?_
      try simp only [Act.put, List.setIfInBounds_toArray, List.set_cons_zero, List.set_cons_succ]
      refine seqRead 7 (v := _) rfl (by kernel_rfl) (by kernel_rfl) (by kernel_rfl) (fun _ _ _ h => h) rfl (fun w hSw => execRow rfl g2 (o2 + r * 24) rfl (cl (nth k r)) _ (hSw.2.1.at' hlk') Tryd.underlying30 rfl infoCube) hS ?_
      try simp only [Act.put, List.setIfInBounds_toArray, List.set_cons_zero, List.set_cons_succ]
      refine seqRead 8 (v := _) rfl (by kernel_rfl) (by kernel_rfl) (by kernel_rfl) (fun _ _ _ h => h) rfl (fun w hSw => by go_simp <;> with_reducible rfl) hS ?_
      try simp only [Act.put, List.setIfInBounds_toArray, List.set_cons_zero, List.set_cons_succ]
      refine seqDone (by kernel_rfl) ?_
      have HS := Lib.hid hS
      clear hS heq
      go_wp2_with fail
      go_roundg (l.length - (r + 1))
      case measure => omega
      case rel => exact ⟨r + 1, by omega, by go_num, HS.out⟩
    · have hdI : decide ((r : Int) < (l.length : Int)) = false := decide_eq_false (by omega)
      have HS := Lib.hid hS
      clear hS
      go_wp2
      go_ret
      exact ⟨rfl, HS.out.2.2⟩
theorem sameL_any (v1 v2 : Value) (l k : List (Nat → Int)) (hn : l.length ≤ 1000000) (hlk : k.length = l.length) (heq : ∀ i, i < l.length → cEq (nth l i) (nth k i) = true) (w : World) (h1 : Lies v1 l w) (h2 : Lies v2 k w) :
    Calls Tryd.prog 13 #[v1, v2] w fun e w' => e = .returned (.bool true) ∧ Below w.heap.size w w' := by
  obtain ⟨p1, c1, rfl⟩ := h1.form
  obtain ⟨p2, c2, rfl⟩ := h2.form
  rw [hlk] at h2 ⊢
  exact sameL_all l k p1 p2 c1 c2 hn hlk heq w h1 h2
end Go.Proofs.YtamjaohoicedfaaDoor
