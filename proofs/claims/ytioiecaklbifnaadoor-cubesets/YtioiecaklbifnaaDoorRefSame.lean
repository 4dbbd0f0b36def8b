/-
  The walk of the reference's SameCubes, at the same cubes twice.
-/
import Derived.Test.YtioiecaklbifnaaDoorCubePar
import Derived.Test.YtioiecaklbifnaaDoorCubeSetM
import Derived.Test.YtioiecaklbifnaaDoorRefLes
namespace Go.Proofs.YtioiecaklbifnaaDoor
open Go.RowKit

/-- two slices hold the same cubes -/
def SamS (w : World) (b1 b2 : Nat) (v1 v2 : Value) (l : List (Nat → Int)) (W : World) : Prop := Owns b1 v1 l W ∧ Owns b2 v2 l W ∧ Below w.heap.size w W
theorem SamS.below {w : World} {b1 b2 : Nat} {v1 v2 : Value} {l : List (Nat → Int)} {W W' : World} (hb : Below W.heap.size W W') (s : SamS w b1 b2 v1 v2 l W) : SamS w b1 b2 v1 v2 l W' := ⟨s.1.below hb, s.2.1.below hb, s.2.2.trans (hb.mono s.2.2.size)⟩
set_option maxHeartbeats 1000000 in
theorem same_some (l : List (Nat → Int)) (b1 b2 g1 g2 c1 c2 : Nat) (hn : l.length ≤ 1000) (w : World) (h1 : Owns b1 (.slice (some ⟨g1, 0, none⟩) l.length c1) l w) (h2 : Owns b2 (.slice (some ⟨g2, 0, none⟩) l.length c2) l w) :
    Calls Tryd.prog 27 #[.slice (some ⟨g1, 0, none⟩) l.length c1, .slice (some ⟨g2, 0, none⟩) l.length c2] w fun e w' => e = .returned (.bool true) ∧ Below w.heap.size w w' := by
  have S0 := Lib.hid (show SamS w b1 b2 (.slice (some ⟨g1, 0, none⟩) l.length c1) (.slice (some ⟨g2, 0, none⟩) l.length c2) l w from ⟨h1, h2, Below.refl _ _⟩)
  clear h1 h2
  have hbn : ((l.length : Int) != (l.length : Int)) = false := by simp
  have hgd := guardCube
  go_enter Tryd.func27, Tryd.ntmps27
  go_wp2_with fail
  clear hbn
  go_loopg [5] l.length (fun k i wr => ∃ r : Nat, r + k = l.length ∧ i = .int .i64 r ∧ SamS w b1 b2 (.slice (some ⟨g1, 0, none⟩) l.length c1) (.slice (some ⟨g2, 0, none⟩) l.length c2) l wr)
  case atStart => exact ⟨0, by omega, rfl, S0.out⟩
  case round =>
    clear S0
    obtain ⟨r, hr, rfl, hS⟩ := hrel
    have HS := Lib.hid hS
    clear hS
    by_cases hlt : r < l.length
    · have hltI : (r : Int) < (l.length : Int) := by omega
      have hdI : decide ((r : Int) < (l.length : Int)) = true := decide_eq_true hltI
      have heq : ∀ w, (Op.equalIn 10000 26 (.agg (cl (nth l r)).toArray) (.agg (cl (nth l r)).toArray)).run Tryd.prog w = .ok true w := fun w => (eql_cube (nth l r) (nth l r) w).trans (by rw [cEq_refl])
      go_wp2_with fail
      refine wp_region_held_drew (S := SamS w b1 b2 (.slice (some ⟨g1, 0, none⟩) l.length c1) (.slice (some ⟨g2, 0, none⟩) l.length c2) l) (by kernel_rfl) (SamS.below (Below.refl _ _).drew HS.out) (fun hS => ?_)
      clear HS
      refine seqRead 0 (v := _) rfl (by kernel_rfl) (by kernel_rfl) (by kernel_rfl) (fun _ _ _ h => h) rfl (fun w hSw => by go_simp <;> with_reducible rfl) hS ?_
      try simp only [Act.put, List.setIfInBounds_toArray, List.set_cons_zero, List.set_cons_succ]
      refine seqRead 1 (v := _) rfl (by kernel_rfl) (by kernel_rfl) (by kernel_rfl) (fun _ _ _ h => h) rfl (fun w hSw => by go_simp <;> with_reducible rfl) hS ?_
      try simp only [Act.put, List.setIfInBounds_toArray, List.set_cons_zero, List.set_cons_succ]
      refine seqRead 2 (v := _) rfl (by kernel_rfl) (by kernel_rfl) (by kernel_rfl) (fun _ _ _ h => h) rfl (fun w hSw => by go_simp <;> with_reducible rfl) hS ?_
      try simp only [Act.put, List.setIfInBounds_toArray, List.set_cons_zero, List.set_cons_succ]
      refine seqRead 3 (v := _) rfl (by kernel_rfl) (by kernel_rfl) (by kernel_rfl) (fun _ _ _ h => h) rfl (fun w hSw => execRow rfl g1 (r * 24) rfl (cl (nth l r)) _ (hSw.1.range r hlt) Tryd.underlying26 rfl infoCube) hS ?_
      try simp only [Act.put, List.setIfInBounds_toArray, List.set_cons_zero, List.set_cons_succ]
      refine seqRead 4 (v := _) rfl (by kernel_rfl) (by kernel_rfl) (by kernel_rfl) (fun _ _ _ h => h) rfl (fun w hSw => by go_simp <;> with_reducible rfl) hS ?_
      try simp only [Act.put, List.setIfInBounds_toArray, List.set_cons_zero, List.set_cons_succ]
      refine seqRead 5 (v := _) rfl (by kernel_rfl) (by kernel_rfl) (by kernel_rfl) (fun _ _ _ h => h) rfl (fun w hSw => by go_simp <;> with_reducible rfl) hS ?_
      try simp only [Act.put, List.setIfInBounds_toArray, List.set_cons_zero, List.set_cons_succ]
      refine seqRead 6 (v := _) rfl (by kernel_rfl) (by kernel_rfl) (by kernel_rfl) (fun _ _ _ h => h) rfl (fun w hSw => by go_simp <;> with_reducible rfl) hS ?_
      try simp only [Act.put, List.setIfInBounds_toArray, List.set_cons_zero, List.set_cons_succ]
      refine seqRead 7 (v := _) rfl (by kernel_rfl) (by kernel_rfl) (by kernel_rfl) (fun _ _ _ h => h) rfl (fun w hSw => execRow rfl g2 (r * 24) rfl (cl (nth l r)) _ (hSw.2.1.range r hlt) Tryd.underlying26 rfl infoCube) hS ?_
      try simp only [Act.put, List.setIfInBounds_toArray, List.set_cons_zero, List.set_cons_succ]
      refine seqRead 8 (v := _) rfl (by kernel_rfl) (by kernel_rfl) (by kernel_rfl) (fun _ _ _ h => h) rfl (fun w hSw => by go_simp <;> with_reducible rfl) hS ?_
      try simp only [Act.put, List.setIfInBounds_toArray, List.set_cons_zero, List.set_cons_succ]
      refine seqDone (by kernel_rfl) ?_
      have HS := Lib.hid hS
      clear hS heq
      go_wp2_with fail
      go_roundg (l.length - (r + 1))
      case measure => omega
      case rel => exact ⟨r + 1, by omega, by go_num, HS.out⟩
    · have hdI : decide ((r : Int) < (l.length : Int)) = false := decide_eq_false (by omega)
      go_wp2
      go_ret
      exact ⟨rfl, HS.out.2.2⟩
theorem same_none (p1 p2 : Option Addr) (c1 c2 : Nat) (w : World) :
    Calls Tryd.prog 27 #[.slice p1 0 c1, .slice p2 0 c2] w fun e w' => e = .returned (.bool true) ∧ Below w.heap.size w w' := by
  go_enter Tryd.func27, Tryd.ntmps27
  go_wp2_with fail
  go_loopg [5] 0 (fun _ i wr => i = .int .i64 0 ∧ wr = w)
  case atStart => exact ⟨rfl, rfl⟩
  case round =>
    obtain ⟨rfl, rfl⟩ := hrel
    go_wp2
    go_ret
    exact ⟨rfl, Below.refl _ _⟩
theorem same_any (l : List (Nat → Int)) (b1 b2 : Nat) (v1 v2 : Value) (hn : l.length ≤ 1000) (w : World) (h1 : Owns b1 v1 l w) (h2 : Owns b2 v2 l w) :
    Calls Tryd.prog 27 #[v1, v2] w fun e w' => e = .returned (.bool true) ∧ Below w.heap.size w w' := by
  by_cases h0 : 0 < l.length
  · obtain ⟨g1, c1, rfl, _, _⟩ := World.ownsRow.form h1 h0
    obtain ⟨g2, c2, rfl, _, _⟩ := World.ownsRow.form h2 h0
    exact same_some l b1 b2 g1 g2 c1 c2 hn w h1 h2
  · obtain ⟨p1, c1, rfl⟩ := h1.form
    obtain ⟨p2, c2, rfl⟩ := h2.form
    rw [show l.length = 0 by omega]
    exact same_none p1 p2 c1 c2 w
end Go.Proofs.YtioiecaklbifnaaDoor
