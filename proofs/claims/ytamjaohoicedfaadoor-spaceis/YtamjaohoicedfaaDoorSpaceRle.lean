/-
  The walk of the reference's Lean.
-/
import Derived.Test.YtamjaohoicedfaaDoorSpaceIsM
import Derived.Test.YtamjaohoicedfaaDoorSpaceRef
namespace Go.Proofs.YtamjaohoicedfaaDoor
open Go.RowKit

/-- what the reference's Lean has in memory -/
def RlS (w : World) (v : Value) (l : List (Nat → Int)) (out : Value) (lout : List (Nat → Int)) (W : World) : Prop := Lies v l W ∧ Owns w.heap.size out lout W ∧ Below w.heap.size w W
theorem RlS.below {w : World} {v : Value} {l : List (Nat → Int)} {out : Value} {lout : List (Nat → Int)} {W W' : World} (hb : Below W.heap.size W W') (s : RlS w v l out lout W) : RlS w v l out lout W' :=
  ⟨s.1.below hb, s.2.1.below hb, s.2.2.trans (hb.mono s.2.2.size)⟩
/-- is a cube still kept, behind the first so many? -/
def yR (l : List (Nat → Int)) (i s : Nat) : Bool := csnd (nth l i) && (List.range s).all fun k => !offR l i k
theorem yR_succ (l : List (Nat → Int)) (i s : Nat) : yR l i (s + 1) = (yR l i s && !offR l i s) := by
  unfold yR
  rw [List.range_succ, List.all_append]
  simp [Bool.and_assoc]
theorem yR_keep (l : List (Nat → Int)) (i : Nat) : yR l i l.length = keepR l i := rfl
theorem yR_false {l : List (Nat → Int)} {i s : Nat} (hs : s ≤ l.length) (h : yR l i s = false) : keepR l i = false := by
  rw [← yR_keep]
  have : ∀ d, yR l i (s + d) = false := by
    intro d
    induction d with
    | zero => exact h
    | succ d ih => rw [show s + (d + 1) = s + d + 1 by omega, yR_succ, ih]; rfl
  have := this (l.length - s)
  rwa [show s + (l.length - s) = l.length by omega] at this
/-- the rows of the insertion -/
def InS (w : World) (g cap : Nat) (d : List (Nat → Int)) (u : Nat) (c a : Nat → Int) (W : World) : Prop := OwnsAt g cap d W ∧ Below w.heap.size w W ∧ W.rangeAt g ((u + 1) * 24) (cl c) ∧ W.rangeAt g (u * 24) (cl a)
theorem InS.below {w : World} {g cap : Nat} {d : List (Nat → Int)} {u : Nat} {c a : Nat → Int} {W W' : World} (hb : Below W.heap.size W W') (s : InS w g cap d u c a W) : InS w g cap d u c a W' :=
  ⟨s.1.below hb, s.2.1.trans (hb.mono s.2.1.size), rangeBelow s.2.2.1 hb, rangeBelow s.2.2.2 hb⟩
def RleRet (w : World) (l : List (Nat → Int)) (e : Ending) (w' : World) : Prop := ∃ R v, RLean l R ∧ e = .returned v ∧ Owns w.heap.size v R w' ∧ Below w.heap.size w w'
theorem keptR_no {l : List (Nat → Int)} {r : Nat} (h : keepR l r = false) : keptR l (r + 1) = keptR l r := by
  show (if keepR l r then keptR l r ++ [nth l r] else keptR l r) = keptR l r
  rw [h]; rfl
theorem keptR_yes {l : List (Nat → Int)} {r : Nat} (h : keepR l r = true) : keptR l (r + 1) = keptR l r ++ [nth l r] := by
  show (if keepR l r then keptR l r ++ [nth l r] else keptR l r) = _
  rw [h]; rfl
/-- one cube more, at its place -/
theorem insert_sorted {A B : List (Nat → Int)} {c : Nat → Int} (hs : Sorted (A ++ B)) (hB : ∀ x ∈ B, cOrd c x < 0) (hA : A = [] ∨ ∃ A' a, A = A' ++ [a] ∧ ¬ cOrd c a < 0) : Sorted (A ++ c :: B) := by
  obtain ⟨s1, s2, s3⟩ := List.pairwise_append.1 hs
  have hac : ∀ x ∈ A, cOrd x c ≤ 0 := by
    rcases hA with rfl | ⟨A', a, rfl, h⟩
    · intro x hx; cases hx
    · have n := cOrd_neg c a
      intro x hx
      rcases List.mem_append.1 hx with hx | hx
      · exact cOrd_trans ((List.pairwise_append.1 s1).2.2 x hx a (by simp)) (by omega)
      · rw [List.mem_singleton.1 hx]; omega
  refine List.pairwise_append.2 ⟨s1, List.pairwise_cons.2 ⟨fun x hx => by have := hB x hx; omega, s2⟩, fun x hx y hy => ?_⟩
  rcases List.mem_cons.1 hy with rfl | hy
  · exact hac x hx
  · exact s3 x hx y hy
theorem insert_perm {A B K : List (Nat → Int)} {c : Nat → Int} (h : (A ++ B).Perm K) : (A ++ c :: B).Perm (K ++ [c]) :=
  (List.perm_middle.trans (List.Perm.cons c h)).trans (List.perm_append_singleton c K).symm
theorem snoc_cases (A : List (Nat → Int)) : A = [] ∨ ∃ A' a, A = A' ++ [a] := by
  rcases List.eq_nil_or_concat A with h | ⟨A', a, h⟩
  · exact .inl h
  · exact .inr ⟨A', a, by simpa using h⟩
/-- the row of the insertion -/
def In0 (w : World) (g cap : Nat) (d : List (Nat → Int)) (W : World) : Prop := OwnsAt g cap d W ∧ Below w.heap.size w W
theorem In0.below {w : World} {g cap : Nat} {d : List (Nat → Int)} {W W' : World} (hb : Below W.heap.size W W') (s : In0 w g cap d W) : In0 w g cap d W' := ⟨s.1.below hb, s.2.trans (hb.mono s.2.size)⟩
/-- a load of a whole row, where nothing changes -/
theorem stillRow {ops : Array Oper} {W : World} {Q : Act → Prop} {rest : List Oper} {oi : Oper} {a : Act} {x : Operand} (hw : Region.wanted oi (yielded ops a.tmps) = true) (ho : oi.op = .load 30 x) (b o : Nat) (hx : a.eval x = .pointer (some ⟨b, o, none⟩)) (c : Nat → Int)
    (hc : W.rangeAt b o (cl c)) (h : wpStill Tryd.prog ops W Q rest (a.put oi.dst (.agg (cl c).toArray))) : wpStill Tryd.prog ops W Q (oi :: rest) a := by
  refine wpStill_step fun K hK => ?_
  rw [if_pos hw]
  unfold Oper.still
  rw [execRow ho b o hx (cl c) _ hc Tryd.underlying30 rfl infoCube, Oper.stillUpon_value]
  exact hK _ h
/-- a whole cube stored into a row of cubes, at the operation -/
theorem storeCubeWp {oi : Oper} {a : Act} {w : World} {K : Act → World → Prop} {Q : Exit → Act → World → Prop} (x y : Operand) (ho : oi.op = .store 30 x y) (g i cap : Nat) (d : List (Nat → Int)) (c : Nat → Int)
    (hx : a.eval x = .pointer (some ⟨g, i * 24, none⟩)) (hy : a.eval y = .agg (cc c)) (hO : OwnsAt g cap d w) (hi : i < d.length) (h : K (a.put oi.dst undef) (w.setCells g (i * 24) (cl c))) : oi.wp Tryd.prog a w K Q :=
  wp_store_mid 30 x y ho g (i * 24) (cc c) hx hy (by rw [cc_size]; exact hO.there (by have := hO.1; omega)) (by rw [cc_size]; exact infoCube) (cc_one c) h
set_option maxHeartbeats 8000000 in
set_option maxRecDepth 100000 in
theorem rlean_all (p : Option Addr) (cap : Nat) (l : List (Nat → Int)) (hlen : l.length ≤ 1000) (hw : WfL l) (w : World) (hl : Lies (.slice p l.length cap) l w) :
    Calls Tryd.prog 14 #[.slice p l.length cap] w (RleRet w l) := by
  have HL := Lib.hid hl
  have HW := Lib.hid hw
  have hgd := guardCube
  clear hl hw
  go_enter Tryd.func14, Tryd.ntmps14
  go_wp2_with fail
  go_loopg [4, 3] l.length (fun kk i out wr => ∃ (r : Nat) (lout : List (Nat → Int)), r + kk = l.length ∧ i = .int .i64 r ∧ Sorted lout ∧ lout.Perm (keptR l r) ∧ lout.length ≤ r ∧ RlS w (.slice p l.length cap) l out lout wr)
  case atStart => exact ⟨0, [], by omega, rfl, List.Pairwise.nil, List.Perm.refl _, by simp, HL.out, Owns.nil _ _, Below.refl _ _⟩
  case round =>
    obtain ⟨r, lout, hr, rfl, hso, hpe, hll, hS0⟩ := hrel
    have HO := Lib.hid (And.intro hso hpe)
    have HS := Lib.hid hS0
    obtain ⟨po, co, rfl⟩ := hS0.2.1.form
    clear hso hpe hS0
    by_cases hlt : r < l.length
    · have hltI : (r : Int) < (l.length : Int) := by omega
      have hdI : decide ((r : Int) < (l.length : Int)) = true := decide_eq_true hltI
      obtain ⟨b, o, rfl, hrg⟩ := HS.out.1.at hlt
      have HR := Lib.hid hrg
      have HCu := Lib.hid (rcube_any (nth l r) (HW.out.nth hlt) wr)
      clear hrg
      go_upto_region 6 with (first
        | (refine wpList_load_mid rfl 30 (.tmp 16) rfl b (o + r * 24) rfl (cl (nth l r)) _ HR.out Tryd.underlying30 rfl infoCube ?_)
        | (go_at_call 26; refine HCu.out.mono ?_; rintro e w1 ⟨rfl, hw1⟩))
      have HS1 := Lib.hid (RlS.below hw1 HS.out)
      clear hw1 HCu HR HS
      go_wp2_with fail
      go_loopg [6, 5] l.length (fun kk i kv wr => ∃ (s : Nat) (y : Bool), s + kk = l.length ∧ i = .int .i64 s ∧ kv = .bool y ∧ y = yR l r s ∧ RlS w (.slice (some ⟨b, o, none⟩) l.length cap) l (.slice po lout.length co) lout wr)
      case atStart => exact ⟨0, _, by omega, rfl, rfl, by simp [yR], HS1.out⟩
      case round =>
        clear HS1
        obtain ⟨s, y, hs, rfl, rfl, hy, hS⟩ := hrel
        have HY := Lib.hid hy
        have HS := Lib.hid hS
        clear hy hS
        cases y
        · have hkn := yR_false (s := s) (by omega) HY.out.symm
          have HK := Lib.hid (keptR_no hkn)
          clear hkn
          by_cases hlt2 : s < l.length
          · have hltI2 : (s : Int) < (l.length : Int) := by omega
            go_wp2_with fail
            go_roundg (l.length - (r + 1))
            case measure => omega
            case rel => exact ⟨r + 1, lout, by omega, by go_num, HO.out.1, by rw [HK.out]; exact HO.out.2, by omega, HS.out⟩
          · have hltI2 : ¬ (s : Int) < (l.length : Int) := by omega
            go_wp2_with fail
            go_roundg (l.length - (r + 1))
            case measure => omega
            case rel => exact ⟨r + 1, lout, by omega, by go_num, HO.out.1, by rw [HK.out]; exact HO.out.2, by omega, HS.out⟩
        · by_cases hlt2 : s < l.length
          · have hltI2 : (s : Int) < (l.length : Int) := by omega
            have hsu := yR_succ l r s
            rw [← HY.out, Bool.true_and] at hsu
            have HU := Lib.hid hsu
            have HC := Lib.hid (fun W => rwithin_any (nth l r) (nth l s) (HW.out.nth hlt) (HW.out.nth hlt2) W)
            have heq : ∀ w, (Op.equalIn 10000 30 (.agg (cl (nth l s)).toArray) (.agg (cl (nth l r)).toArray)).run Tryd.prog w = .ok (cEq (nth l s) (nth l r)) w := fun w => eql_cube (nth l s) (nth l r) w
            clear hsu HY
            go_upto_region 9 with (fail)
            refine wp_region_held_drew (S := RlS w (.slice (some ⟨b, o, none⟩) l.length cap) l (.slice po lout.length co) lout) (by kernel_rfl) (RlS.below (Below.refl _ _).drew HS.out) (fun hS => ?_)
            clear HS
            by_cases hki : s = r
            · have hne : ((s : Int) != (r : Int)) = false := by rw [hki]; simp
              have HX := Lib.hid (show offR l r s = false from by simp [offR, hki])
              clear hki
              refine seqRead 0 (v := _) rfl (by kernel_rfl) (by kernel_rfl) (by kernel_rfl) (fun _ _ _ h => h) rfl (fun w hSw => by go_simp <;> with_reducible rfl) hS ?_
              try simp only [Act.put, List.setIfInBounds_toArray, List.set_cons_zero, List.set_cons_succ]
              refine seqRead 1 (v := _) rfl (by kernel_rfl) (by kernel_rfl) (by kernel_rfl) (fun _ _ _ h => h) rfl (fun w hSw => by go_simp <;> with_reducible rfl) hS ?_
              try simp only [Act.put, List.setIfInBounds_toArray, List.set_cons_zero, List.set_cons_succ]
              refine seqRead 2 (v := _) rfl (by kernel_rfl) (by kernel_rfl) (by kernel_rfl) (fun _ _ _ h => h) rfl (fun w hSw => by go_simp <;> with_reducible rfl) hS ?_
              try simp only [Act.put, List.setIfInBounds_toArray, List.set_cons_zero, List.set_cons_succ]
              refine seqRead 3 (v := _) rfl (by kernel_rfl) (by kernel_rfl) (by kernel_rfl) (fun _ _ _ h => h) rfl (fun w hSw => by go_simp <;> with_reducible rfl) hS ?_
              try simp only [Act.put, List.setIfInBounds_toArray, List.set_cons_zero, List.set_cons_succ]
              refine seqSkip 4 rfl (by kernel_rfl) (by kernel_rfl) (by kernel_rfl) (fun _ _ _ h => h) rfl hS ?_
              try simp only [Act.put, List.setIfInBounds_toArray, List.set_cons_zero, List.set_cons_succ]
              refine seqSkip 5 rfl (by kernel_rfl) (by kernel_rfl) (by kernel_rfl) (fun _ _ _ h => h) rfl hS ?_
              try simp only [Act.put, List.setIfInBounds_toArray, List.set_cons_zero, List.set_cons_succ]
              refine seqSkip 6 rfl (by kernel_rfl) (by kernel_rfl) (by kernel_rfl) (fun _ _ _ h => h) rfl hS ?_
              try simp only [Act.put, List.setIfInBounds_toArray, List.set_cons_zero, List.set_cons_succ]
              refine seqSkip 7 rfl (by kernel_rfl) (by kernel_rfl) (by kernel_rfl) (fun _ _ _ h => h) rfl hS ?_
              try simp only [Act.put, List.setIfInBounds_toArray, List.set_cons_zero, List.set_cons_succ]
              refine seqSkip 8 rfl (by kernel_rfl) (by kernel_rfl) (by kernel_rfl) (fun _ _ _ h => h) rfl hS ?_
              try simp only [Act.put, List.setIfInBounds_toArray, List.set_cons_zero, List.set_cons_succ]
              refine seqSkip 9 rfl (by kernel_rfl) (by kernel_rfl) (by kernel_rfl) (fun _ _ _ h => h) rfl hS ?_
              try simp only [Act.put, List.setIfInBounds_toArray, List.set_cons_zero, List.set_cons_succ]
              refine seqSkip 10 rfl (by kernel_rfl) (by kernel_rfl) (by kernel_rfl) (fun _ _ _ h => h) rfl hS ?_
              try simp only [Act.put, List.setIfInBounds_toArray, List.set_cons_zero, List.set_cons_succ]
              refine seqSkip 11 rfl (by kernel_rfl) (by kernel_rfl) (by kernel_rfl) (fun _ _ _ h => h) rfl hS ?_
              try simp only [Act.put, List.setIfInBounds_toArray, List.set_cons_zero, List.set_cons_succ]
              refine seqSkip 12 rfl (by kernel_rfl) (by kernel_rfl) (by kernel_rfl) (fun _ _ _ h => h) rfl hS ?_
              try simp only [Act.put, List.setIfInBounds_toArray, List.set_cons_zero, List.set_cons_succ]
              refine seqRead 13 (v := _) rfl (by kernel_rfl) (by kernel_rfl) (by kernel_rfl) (fun _ _ _ h => h) rfl (fun w hSw => by go_simp <;> with_reducible rfl) hS ?_
              try simp only [Act.put, List.setIfInBounds_toArray, List.set_cons_zero, List.set_cons_succ]
              refine seqRead 14 (v := _) rfl (by kernel_rfl) (by kernel_rfl) (by kernel_rfl) (fun _ _ _ h => h) rfl (fun w hSw => by go_simp <;> with_reducible rfl) hS ?_
              try simp only [Act.put, List.setIfInBounds_toArray, List.set_cons_zero, List.set_cons_succ]
              refine seqSkip 15 rfl (by kernel_rfl) (by kernel_rfl) (by kernel_rfl) (fun _ _ _ h => h) rfl hS ?_
              try simp only [Act.put, List.setIfInBounds_toArray, List.set_cons_zero, List.set_cons_succ]
              refine seqSkip 16 rfl (by kernel_rfl) (by kernel_rfl) (by kernel_rfl) (fun _ _ _ h => h) rfl hS ?_
              try simp only [Act.put, List.setIfInBounds_toArray, List.set_cons_zero, List.set_cons_succ]
              refine seqSkip 17 rfl (by kernel_rfl) (by kernel_rfl) (by kernel_rfl) (fun _ _ _ h => h) rfl hS ?_
              try simp only [Act.put, List.setIfInBounds_toArray, List.set_cons_zero, List.set_cons_succ]
              refine seqSkip 18 rfl (by kernel_rfl) (by kernel_rfl) (by kernel_rfl) (fun _ _ _ h => h) rfl hS ?_
              try simp only [Act.put, List.setIfInBounds_toArray, List.set_cons_zero, List.set_cons_succ]
              refine seqSkip 19 rfl (by kernel_rfl) (by kernel_rfl) (by kernel_rfl) (fun _ _ _ h => h) rfl hS ?_
              try simp only [Act.put, List.setIfInBounds_toArray, List.set_cons_zero, List.set_cons_succ]
              refine seqSkip 20 rfl (by kernel_rfl) (by kernel_rfl) (by kernel_rfl) (fun _ _ _ h => h) rfl hS ?_
              try simp only [Act.put, List.setIfInBounds_toArray, List.set_cons_zero, List.set_cons_succ]
              refine seqSkip 21 rfl (by kernel_rfl) (by kernel_rfl) (by kernel_rfl) (fun _ _ _ h => h) rfl hS ?_
              try simp only [Act.put, List.setIfInBounds_toArray, List.set_cons_zero, List.set_cons_succ]
              refine seqSkip 22 rfl (by kernel_rfl) (by kernel_rfl) (by kernel_rfl) (fun _ _ _ h => h) rfl hS ?_
              try simp only [Act.put, List.setIfInBounds_toArray, List.set_cons_zero, List.set_cons_succ]
              refine seqSkip 23 rfl (by kernel_rfl) (by kernel_rfl) (by kernel_rfl) (fun _ _ _ h => h) rfl hS ?_
              try simp only [Act.put, List.setIfInBounds_toArray, List.set_cons_zero, List.set_cons_succ]
              refine seqSkip 24 rfl (by kernel_rfl) (by kernel_rfl) (by kernel_rfl) (fun _ _ _ h => h) rfl hS ?_
              try simp only [Act.put, List.setIfInBounds_toArray, List.set_cons_zero, List.set_cons_succ]
              refine seqSkip 25 rfl (by kernel_rfl) (by kernel_rfl) (by kernel_rfl) (fun _ _ _ h => h) rfl hS ?_
              try simp only [Act.put, List.setIfInBounds_toArray, List.set_cons_zero, List.set_cons_succ]
              refine seqSkip 26 rfl (by kernel_rfl) (by kernel_rfl) (by kernel_rfl) (fun _ _ _ h => h) rfl hS ?_
              try simp only [Act.put, List.setIfInBounds_toArray, List.set_cons_zero, List.set_cons_succ]
              refine seqSkip 27 rfl (by kernel_rfl) (by kernel_rfl) (by kernel_rfl) (fun _ _ _ h => h) rfl hS ?_
              try simp only [Act.put, List.setIfInBounds_toArray, List.set_cons_zero, List.set_cons_succ]
              refine seqSkip 28 rfl (by kernel_rfl) (by kernel_rfl) (by kernel_rfl) (fun _ _ _ h => h) rfl hS ?_
              try simp only [Act.put, List.setIfInBounds_toArray, List.set_cons_zero, List.set_cons_succ]
              refine seqRead 29 (v := _) rfl (by kernel_rfl) (by kernel_rfl) (by kernel_rfl) (fun _ _ _ h => h) rfl (fun w hSw => by go_simp <;> with_reducible rfl) hS ?_
              try simp only [Act.put, List.setIfInBounds_toArray, List.set_cons_zero, List.set_cons_succ]
              refine seqDone (by kernel_rfl) ?_
              have HS := Lib.hid hS
              clear hS heq HC hne
              go_wp2_with fail
              go_roundg (l.length - (s + 1))
              case measure => omega
              case rel => exact ⟨s + 1, true, by omega, by go_num, rfl, by rw [HU.out, HX.out]; rfl, HS.out⟩
            · have hne : ((s : Int) != (r : Int)) = true := by simpa using (show (s : Int) ≠ (r : Int) by omega)
              have hne' : (s != r) = true := by simpa using hki
              clear hki
              cases hin : inB (nth l r) (nth l s)
              · have HX := Lib.hid (show offR l r s = false from by simp [offR, hin])
                rw [hin] at HC
                clear hin hne'
                refine seqRead 0 (v := _) rfl (by kernel_rfl) (by kernel_rfl) (by kernel_rfl) (fun _ _ _ h => h) rfl (fun w hSw => by go_simp <;> with_reducible rfl) hS ?_
                try simp only [Act.put, List.setIfInBounds_toArray, List.set_cons_zero, List.set_cons_succ]
                refine seqRead 1 (v := _) rfl (by kernel_rfl) (by kernel_rfl) (by kernel_rfl) (fun _ _ _ h => h) rfl (fun w hSw => by go_simp <;> with_reducible rfl) hS ?_
                try simp only [Act.put, List.setIfInBounds_toArray, List.set_cons_zero, List.set_cons_succ]
                refine seqRead 2 (v := _) rfl (by kernel_rfl) (by kernel_rfl) (by kernel_rfl) (fun _ _ _ h => h) rfl (fun w hSw => by go_simp <;> with_reducible rfl) hS ?_
                try simp only [Act.put, List.setIfInBounds_toArray, List.set_cons_zero, List.set_cons_succ]
                refine seqRead 3 (v := _) rfl (by kernel_rfl) (by kernel_rfl) (by kernel_rfl) (fun _ _ _ h => h) rfl (fun w hSw => by go_simp <;> with_reducible rfl) hS ?_
                try simp only [Act.put, List.setIfInBounds_toArray, List.set_cons_zero, List.set_cons_succ]
                refine seqRead 4 (v := _) rfl (by kernel_rfl) (by kernel_rfl) (by kernel_rfl) (fun _ _ _ h => h) rfl (fun w hSw => by go_simp <;> with_reducible rfl) hS ?_
                try simp only [Act.put, List.setIfInBounds_toArray, List.set_cons_zero, List.set_cons_succ]
                refine seqRead 5 (v := _) rfl (by kernel_rfl) (by kernel_rfl) (by kernel_rfl) (fun _ _ _ h => h) rfl (fun w hSw => by go_simp <;> with_reducible rfl) hS ?_
                try simp only [Act.put, List.setIfInBounds_toArray, List.set_cons_zero, List.set_cons_succ]
                refine seqRead 6 (v := _) rfl (by kernel_rfl) (by kernel_rfl) (by kernel_rfl) (fun _ _ _ h => h) rfl (fun w hSw => by go_simp <;> with_reducible rfl) hS ?_
                try simp only [Act.put, List.setIfInBounds_toArray, List.set_cons_zero, List.set_cons_succ]
                refine seqRead 7 (v := _) rfl (by kernel_rfl) (by kernel_rfl) (by kernel_rfl) (fun _ _ _ h => h) rfl (fun w hSw => execRow rfl b (o + r * 24) rfl (cl (nth l r)) _ (hSw.1.at' hlt) Tryd.underlying30 rfl infoCube) hS ?_
                try simp only [Act.put, List.setIfInBounds_toArray, List.set_cons_zero, List.set_cons_succ]
                refine seqRead 8 (v := _) rfl (by kernel_rfl) (by kernel_rfl) (by kernel_rfl) (fun _ _ _ h => h) rfl (fun w hSw => by go_simp <;> with_reducible rfl) hS ?_
                try simp only [Act.put, List.setIfInBounds_toArray, List.set_cons_zero, List.set_cons_succ]
                refine seqRead 9 (v := _) rfl (by kernel_rfl) (by kernel_rfl) (by kernel_rfl) (fun _ _ _ h => h) rfl (fun w hSw => by go_simp <;> with_reducible rfl) hS ?_
                try simp only [Act.put, List.setIfInBounds_toArray, List.set_cons_zero, List.set_cons_succ]
                refine seqRead 10 (v := _) rfl (by kernel_rfl) (by kernel_rfl) (by kernel_rfl) (fun _ _ _ h => h) rfl (fun w hSw => by go_simp <;> with_reducible rfl) hS ?_
                try simp only [Act.put, List.setIfInBounds_toArray, List.set_cons_zero, List.set_cons_succ]
                refine seqRead 11 (v := _) rfl (by kernel_rfl) (by kernel_rfl) (by kernel_rfl) (fun _ _ _ h => h) rfl (fun w hSw => execRow rfl b (o + s * 24) rfl (cl (nth l s)) _ (hSw.1.at' hlt2) Tryd.underlying30 rfl infoCube) hS ?_
                try simp only [Act.put, List.setIfInBounds_toArray, List.set_cons_zero, List.set_cons_succ]
                refine seqCall 12 rfl (by kernel_rfl) rfl (fun K hK => ?_)
                go_simp
                refine (HC.out _).mono ?_
                rintro e w5 ⟨rfl, hw5⟩
                refine hK.out _ _ (RlS.below hw5 hS) (fun hS => ?_)
                clear hK K hw5
                try simp only [Act.put, List.setIfInBounds_toArray, List.set_cons_zero, List.set_cons_succ]
                refine seqRead 13 (v := _) rfl (by kernel_rfl) (by kernel_rfl) (by kernel_rfl) (fun _ _ _ h => h) rfl (fun w hSw => by go_simp <;> with_reducible rfl) hS ?_
                try simp only [Act.put, List.setIfInBounds_toArray, List.set_cons_zero, List.set_cons_succ]
                refine seqRead 14 (v := _) rfl (by kernel_rfl) (by kernel_rfl) (by kernel_rfl) (fun _ _ _ h => h) rfl (fun w hSw => by go_simp <;> with_reducible rfl) hS ?_
                try simp only [Act.put, List.setIfInBounds_toArray, List.set_cons_zero, List.set_cons_succ]
                refine seqSkip 15 rfl (by kernel_rfl) (by kernel_rfl) (by kernel_rfl) (fun _ _ _ h => h) rfl hS ?_
                try simp only [Act.put, List.setIfInBounds_toArray, List.set_cons_zero, List.set_cons_succ]
                refine seqSkip 16 rfl (by kernel_rfl) (by kernel_rfl) (by kernel_rfl) (fun _ _ _ h => h) rfl hS ?_
                try simp only [Act.put, List.setIfInBounds_toArray, List.set_cons_zero, List.set_cons_succ]
                refine seqSkip 17 rfl (by kernel_rfl) (by kernel_rfl) (by kernel_rfl) (fun _ _ _ h => h) rfl hS ?_
                try simp only [Act.put, List.setIfInBounds_toArray, List.set_cons_zero, List.set_cons_succ]
                refine seqSkip 18 rfl (by kernel_rfl) (by kernel_rfl) (by kernel_rfl) (fun _ _ _ h => h) rfl hS ?_
                try simp only [Act.put, List.setIfInBounds_toArray, List.set_cons_zero, List.set_cons_succ]
                refine seqSkip 19 rfl (by kernel_rfl) (by kernel_rfl) (by kernel_rfl) (fun _ _ _ h => h) rfl hS ?_
                try simp only [Act.put, List.setIfInBounds_toArray, List.set_cons_zero, List.set_cons_succ]
                refine seqSkip 20 rfl (by kernel_rfl) (by kernel_rfl) (by kernel_rfl) (fun _ _ _ h => h) rfl hS ?_
                try simp only [Act.put, List.setIfInBounds_toArray, List.set_cons_zero, List.set_cons_succ]
                refine seqSkip 21 rfl (by kernel_rfl) (by kernel_rfl) (by kernel_rfl) (fun _ _ _ h => h) rfl hS ?_
                try simp only [Act.put, List.setIfInBounds_toArray, List.set_cons_zero, List.set_cons_succ]
                refine seqSkip 22 rfl (by kernel_rfl) (by kernel_rfl) (by kernel_rfl) (fun _ _ _ h => h) rfl hS ?_
                try simp only [Act.put, List.setIfInBounds_toArray, List.set_cons_zero, List.set_cons_succ]
                refine seqSkip 23 rfl (by kernel_rfl) (by kernel_rfl) (by kernel_rfl) (fun _ _ _ h => h) rfl hS ?_
                try simp only [Act.put, List.setIfInBounds_toArray, List.set_cons_zero, List.set_cons_succ]
                refine seqSkip 24 rfl (by kernel_rfl) (by kernel_rfl) (by kernel_rfl) (fun _ _ _ h => h) rfl hS ?_
                try simp only [Act.put, List.setIfInBounds_toArray, List.set_cons_zero, List.set_cons_succ]
                refine seqSkip 25 rfl (by kernel_rfl) (by kernel_rfl) (by kernel_rfl) (fun _ _ _ h => h) rfl hS ?_
                try simp only [Act.put, List.setIfInBounds_toArray, List.set_cons_zero, List.set_cons_succ]
                refine seqSkip 26 rfl (by kernel_rfl) (by kernel_rfl) (by kernel_rfl) (fun _ _ _ h => h) rfl hS ?_
                try simp only [Act.put, List.setIfInBounds_toArray, List.set_cons_zero, List.set_cons_succ]
                refine seqSkip 27 rfl (by kernel_rfl) (by kernel_rfl) (by kernel_rfl) (fun _ _ _ h => h) rfl hS ?_
                try simp only [Act.put, List.setIfInBounds_toArray, List.set_cons_zero, List.set_cons_succ]
                refine seqSkip 28 rfl (by kernel_rfl) (by kernel_rfl) (by kernel_rfl) (fun _ _ _ h => h) rfl hS ?_
                try simp only [Act.put, List.setIfInBounds_toArray, List.set_cons_zero, List.set_cons_succ]
                refine seqRead 29 (v := _) rfl (by kernel_rfl) (by kernel_rfl) (by kernel_rfl) (fun _ _ _ h => h) rfl (fun w hSw => by go_simp <;> with_reducible rfl) hS ?_
                try simp only [Act.put, List.setIfInBounds_toArray, List.set_cons_zero, List.set_cons_succ]
                refine seqDone (by kernel_rfl) ?_
                have HS := Lib.hid hS
                clear hS heq HC hne
                go_wp2_with fail
                go_roundg (l.length - (s + 1))
                case measure => omega
                case rel => exact ⟨s + 1, true, by omega, by go_num, rfl, by rw [HU.out, HX.out]; rfl, HS.out⟩
              · rw [hin] at HC
                cases hce : cEq (nth l s) (nth l r)
                · have HX := Lib.hid (show offR l r s = true from by simp only [offR, hin, hce, hne']; rfl)
                  rw [hce] at heq
                  clear hin hce hne'
                  refine seqRead 0 (v := _) rfl (by kernel_rfl) (by kernel_rfl) (by kernel_rfl) (fun _ _ _ h => h) rfl (fun w hSw => by go_simp <;> with_reducible rfl) hS ?_
                  try simp only [Act.put, List.setIfInBounds_toArray, List.set_cons_zero, List.set_cons_succ]
                  refine seqRead 1 (v := _) rfl (by kernel_rfl) (by kernel_rfl) (by kernel_rfl) (fun _ _ _ h => h) rfl (fun w hSw => by go_simp <;> with_reducible rfl) hS ?_
                  try simp only [Act.put, List.setIfInBounds_toArray, List.set_cons_zero, List.set_cons_succ]
                  refine seqRead 2 (v := _) rfl (by kernel_rfl) (by kernel_rfl) (by kernel_rfl) (fun _ _ _ h => h) rfl (fun w hSw => by go_simp <;> with_reducible rfl) hS ?_
                  try simp only [Act.put, List.setIfInBounds_toArray, List.set_cons_zero, List.set_cons_succ]
                  refine seqRead 3 (v := _) rfl (by kernel_rfl) (by kernel_rfl) (by kernel_rfl) (fun _ _ _ h => h) rfl (fun w hSw => by go_simp <;> with_reducible rfl) hS ?_
                  try simp only [Act.put, List.setIfInBounds_toArray, List.set_cons_zero, List.set_cons_succ]
                  refine seqRead 4 (v := _) rfl (by kernel_rfl) (by kernel_rfl) (by kernel_rfl) (fun _ _ _ h => h) rfl (fun w hSw => by go_simp <;> with_reducible rfl) hS ?_
                  try simp only [Act.put, List.setIfInBounds_toArray, List.set_cons_zero, List.set_cons_succ]
                  refine seqRead 5 (v := _) rfl (by kernel_rfl) (by kernel_rfl) (by kernel_rfl) (fun _ _ _ h => h) rfl (fun w hSw => by go_simp <;> with_reducible rfl) hS ?_
                  try simp only [Act.put, List.setIfInBounds_toArray, List.set_cons_zero, List.set_cons_succ]
                  refine seqRead 6 (v := _) rfl (by kernel_rfl) (by kernel_rfl) (by kernel_rfl) (fun _ _ _ h => h) rfl (fun w hSw => by go_simp <;> with_reducible rfl) hS ?_
                  try simp only [Act.put, List.setIfInBounds_toArray, List.set_cons_zero, List.set_cons_succ]
                  refine seqRead 7 (v := _) rfl (by kernel_rfl) (by kernel_rfl) (by kernel_rfl) (fun _ _ _ h => h) rfl (fun w hSw => execRow rfl b (o + r * 24) rfl (cl (nth l r)) _ (hSw.1.at' hlt) Tryd.underlying30 rfl infoCube) hS ?_
                  try simp only [Act.put, List.setIfInBounds_toArray, List.set_cons_zero, List.set_cons_succ]
                  refine seqRead 8 (v := _) rfl (by kernel_rfl) (by kernel_rfl) (by kernel_rfl) (fun _ _ _ h => h) rfl (fun w hSw => by go_simp <;> with_reducible rfl) hS ?_
                  try simp only [Act.put, List.setIfInBounds_toArray, List.set_cons_zero, List.set_cons_succ]
                  refine seqRead 9 (v := _) rfl (by kernel_rfl) (by kernel_rfl) (by kernel_rfl) (fun _ _ _ h => h) rfl (fun w hSw => by go_simp <;> with_reducible rfl) hS ?_
                  try simp only [Act.put, List.setIfInBounds_toArray, List.set_cons_zero, List.set_cons_succ]
                  refine seqRead 10 (v := _) rfl (by kernel_rfl) (by kernel_rfl) (by kernel_rfl) (fun _ _ _ h => h) rfl (fun w hSw => by go_simp <;> with_reducible rfl) hS ?_
                  try simp only [Act.put, List.setIfInBounds_toArray, List.set_cons_zero, List.set_cons_succ]
                  refine seqRead 11 (v := _) rfl (by kernel_rfl) (by kernel_rfl) (by kernel_rfl) (fun _ _ _ h => h) rfl (fun w hSw => execRow rfl b (o + s * 24) rfl (cl (nth l s)) _ (hSw.1.at' hlt2) Tryd.underlying30 rfl infoCube) hS ?_
                  try simp only [Act.put, List.setIfInBounds_toArray, List.set_cons_zero, List.set_cons_succ]
                  refine seqCall 12 rfl (by kernel_rfl) rfl (fun K hK => ?_)
                  go_simp
                  refine (HC.out _).mono ?_
                  rintro e w5 ⟨rfl, hw5⟩
                  refine hK.out _ _ (RlS.below hw5 hS) (fun hS => ?_)
                  clear hK K hw5
                  try simp only [Act.put, List.setIfInBounds_toArray, List.set_cons_zero, List.set_cons_succ]
                  refine seqRead 13 (v := _) rfl (by kernel_rfl) (by kernel_rfl) (by kernel_rfl) (fun _ _ _ h => h) rfl (fun w hSw => by go_simp <;> with_reducible rfl) hS ?_
                  try simp only [Act.put, List.setIfInBounds_toArray, List.set_cons_zero, List.set_cons_succ]
                  refine seqRead 14 (v := _) rfl (by kernel_rfl) (by kernel_rfl) (by kernel_rfl) (fun _ _ _ h => h) rfl (fun w hSw => by go_simp <;> with_reducible rfl) hS ?_
                  try simp only [Act.put, List.setIfInBounds_toArray, List.set_cons_zero, List.set_cons_succ]
                  refine seqRead 15 (v := _) rfl (by kernel_rfl) (by kernel_rfl) (by kernel_rfl) (fun _ _ _ h => h) rfl (fun w hSw => by go_simp <;> with_reducible rfl) hS ?_
                  try simp only [Act.put, List.setIfInBounds_toArray, List.set_cons_zero, List.set_cons_succ]
                  refine seqRead 16 (v := _) rfl (by kernel_rfl) (by kernel_rfl) (by kernel_rfl) (fun _ _ _ h => h) rfl (fun w hSw => by go_simp <;> with_reducible rfl) hS ?_
                  try simp only [Act.put, List.setIfInBounds_toArray, List.set_cons_zero, List.set_cons_succ]
                  refine seqRead 17 (v := _) rfl (by kernel_rfl) (by kernel_rfl) (by kernel_rfl) (fun _ _ _ h => h) rfl (fun w hSw => by go_simp <;> with_reducible rfl) hS ?_
                  try simp only [Act.put, List.setIfInBounds_toArray, List.set_cons_zero, List.set_cons_succ]
                  refine seqRead 18 (v := _) rfl (by kernel_rfl) (by kernel_rfl) (by kernel_rfl) (fun _ _ _ h => h) rfl (fun w hSw => execRow rfl b (o + s * 24) rfl (cl (nth l s)) _ (hSw.1.at' hlt2) Tryd.underlying30 rfl infoCube) hS ?_
                  try simp only [Act.put, List.setIfInBounds_toArray, List.set_cons_zero, List.set_cons_succ]
                  refine seqRead 19 (v := _) rfl (by kernel_rfl) (by kernel_rfl) (by kernel_rfl) (fun _ _ _ h => h) rfl (fun w hSw => by go_simp <;> with_reducible rfl) hS ?_
                  try simp only [Act.put, List.setIfInBounds_toArray, List.set_cons_zero, List.set_cons_succ]
                  refine seqRead 20 (v := _) rfl (by kernel_rfl) (by kernel_rfl) (by kernel_rfl) (fun _ _ _ h => h) rfl (fun w hSw => by go_simp <;> with_reducible rfl) hS ?_
                  try simp only [Act.put, List.setIfInBounds_toArray, List.set_cons_zero, List.set_cons_succ]
                  refine seqRead 21 (v := _) rfl (by kernel_rfl) (by kernel_rfl) (by kernel_rfl) (fun _ _ _ h => h) rfl (fun w hSw => by go_simp <;> with_reducible rfl) hS ?_
                  try simp only [Act.put, List.setIfInBounds_toArray, List.set_cons_zero, List.set_cons_succ]
                  refine seqRead 22 (v := _) rfl (by kernel_rfl) (by kernel_rfl) (by kernel_rfl) (fun _ _ _ h => h) rfl (fun w hSw => execRow rfl b (o + r * 24) rfl (cl (nth l r)) _ (hSw.1.at' hlt) Tryd.underlying30 rfl infoCube) hS ?_
                  try simp only [Act.put, List.setIfInBounds_toArray, List.set_cons_zero, List.set_cons_succ]
                  refine seqRead 23 (v := _) rfl (by kernel_rfl) (by kernel_rfl) (by kernel_rfl) (fun _ _ _ h => h) rfl (fun w hSw => by go_simp <;> with_reducible rfl) hS ?_
                  try simp only [Act.put, List.setIfInBounds_toArray, List.set_cons_zero, List.set_cons_succ]
                  refine seqRead 24 (v := _) rfl (by kernel_rfl) (by kernel_rfl) (by kernel_rfl) (fun _ _ _ h => h) rfl (fun w hSw => by go_simp <;> with_reducible rfl) hS ?_
                  try simp only [Act.put, List.setIfInBounds_toArray, List.set_cons_zero, List.set_cons_succ]
                  refine seqSkip 25 rfl (by kernel_rfl) (by kernel_rfl) (by kernel_rfl) (fun _ _ _ h => h) rfl hS ?_
                  try simp only [Act.put, List.setIfInBounds_toArray, List.set_cons_zero, List.set_cons_succ]
                  refine seqSkip 26 rfl (by kernel_rfl) (by kernel_rfl) (by kernel_rfl) (fun _ _ _ h => h) rfl hS ?_
                  try simp only [Act.put, List.setIfInBounds_toArray, List.set_cons_zero, List.set_cons_succ]
                  refine seqSkip 27 rfl (by kernel_rfl) (by kernel_rfl) (by kernel_rfl) (fun _ _ _ h => h) rfl hS ?_
                  try simp only [Act.put, List.setIfInBounds_toArray, List.set_cons_zero, List.set_cons_succ]
                  refine seqRead 28 (v := _) rfl (by kernel_rfl) (by kernel_rfl) (by kernel_rfl) (fun _ _ _ h => h) rfl (fun w hSw => by go_simp <;> with_reducible rfl) hS ?_
                  try simp only [Act.put, List.setIfInBounds_toArray, List.set_cons_zero, List.set_cons_succ]
                  refine seqRead 29 (v := _) rfl (by kernel_rfl) (by kernel_rfl) (by kernel_rfl) (fun _ _ _ h => h) rfl (fun w hSw => by go_simp <;> with_reducible rfl) hS ?_
                  try simp only [Act.put, List.setIfInBounds_toArray, List.set_cons_zero, List.set_cons_succ]
                  refine seqDone (by kernel_rfl) ?_
                  have HS := Lib.hid hS
                  clear hS heq HC hne
                  go_wp2_with fail
                  go_roundg (l.length - (s + 1))
                  case measure => omega
                  case rel => exact ⟨s + 1, false, by omega, by go_num, rfl, by rw [HU.out, HX.out]; rfl, HS.out⟩
                · rw [hce] at heq
                  by_cases hsr : s < r
                  · have HX := Lib.hid (show offR l r s = true from by simp only [offR, hin, hce, hne', decide_eq_true hsr]; rfl)
                    have hsI : (s : Int) < (r : Int) := by omega
                    have hsD : decide ((s : Int) < (r : Int)) = true := decide_eq_true hsI
                    clear hin hce hne' hsr
                    refine seqRead 0 (v := _) rfl (by kernel_rfl) (by kernel_rfl) (by kernel_rfl) (fun _ _ _ h => h) rfl (fun w hSw => by go_simp <;> with_reducible rfl) hS ?_
                    try simp only [Act.put, List.setIfInBounds_toArray, List.set_cons_zero, List.set_cons_succ]
                    refine seqRead 1 (v := _) rfl (by kernel_rfl) (by kernel_rfl) (by kernel_rfl) (fun _ _ _ h => h) rfl (fun w hSw => by go_simp <;> with_reducible rfl) hS ?_
                    try simp only [Act.put, List.setIfInBounds_toArray, List.set_cons_zero, List.set_cons_succ]
                    refine seqRead 2 (v := _) rfl (by kernel_rfl) (by kernel_rfl) (by kernel_rfl) (fun _ _ _ h => h) rfl (fun w hSw => by go_simp <;> with_reducible rfl) hS ?_
                    try simp only [Act.put, List.setIfInBounds_toArray, List.set_cons_zero, List.set_cons_succ]
                    refine seqRead 3 (v := _) rfl (by kernel_rfl) (by kernel_rfl) (by kernel_rfl) (fun _ _ _ h => h) rfl (fun w hSw => by go_simp <;> with_reducible rfl) hS ?_
                    try simp only [Act.put, List.setIfInBounds_toArray, List.set_cons_zero, List.set_cons_succ]
                    refine seqRead 4 (v := _) rfl (by kernel_rfl) (by kernel_rfl) (by kernel_rfl) (fun _ _ _ h => h) rfl (fun w hSw => by go_simp <;> with_reducible rfl) hS ?_
                    try simp only [Act.put, List.setIfInBounds_toArray, List.set_cons_zero, List.set_cons_succ]
                    refine seqRead 5 (v := _) rfl (by kernel_rfl) (by kernel_rfl) (by kernel_rfl) (fun _ _ _ h => h) rfl (fun w hSw => by go_simp <;> with_reducible rfl) hS ?_
                    try simp only [Act.put, List.setIfInBounds_toArray, List.set_cons_zero, List.set_cons_succ]
                    refine seqRead 6 (v := _) rfl (by kernel_rfl) (by kernel_rfl) (by kernel_rfl) (fun _ _ _ h => h) rfl (fun w hSw => by go_simp <;> with_reducible rfl) hS ?_
                    try simp only [Act.put, List.setIfInBounds_toArray, List.set_cons_zero, List.set_cons_succ]
                    refine seqRead 7 (v := _) rfl (by kernel_rfl) (by kernel_rfl) (by kernel_rfl) (fun _ _ _ h => h) rfl (fun w hSw => execRow rfl b (o + r * 24) rfl (cl (nth l r)) _ (hSw.1.at' hlt) Tryd.underlying30 rfl infoCube) hS ?_
                    try simp only [Act.put, List.setIfInBounds_toArray, List.set_cons_zero, List.set_cons_succ]
                    refine seqRead 8 (v := _) rfl (by kernel_rfl) (by kernel_rfl) (by kernel_rfl) (fun _ _ _ h => h) rfl (fun w hSw => by go_simp <;> with_reducible rfl) hS ?_
                    try simp only [Act.put, List.setIfInBounds_toArray, List.set_cons_zero, List.set_cons_succ]
                    refine seqRead 9 (v := _) rfl (by kernel_rfl) (by kernel_rfl) (by kernel_rfl) (fun _ _ _ h => h) rfl (fun w hSw => by go_simp <;> with_reducible rfl) hS ?_
                    try simp only [Act.put, List.setIfInBounds_toArray, List.set_cons_zero, List.set_cons_succ]
                    refine seqRead 10 (v := _) rfl (by kernel_rfl) (by kernel_rfl) (by kernel_rfl) (fun _ _ _ h => h) rfl (fun w hSw => by go_simp <;> with_reducible rfl) hS ?_
                    try simp only [Act.put, List.setIfInBounds_toArray, List.set_cons_zero, List.set_cons_succ]
                    refine seqRead 11 (v := _) rfl (by kernel_rfl) (by kernel_rfl) (by kernel_rfl) (fun _ _ _ h => h) rfl (fun w hSw => execRow rfl b (o + s * 24) rfl (cl (nth l s)) _ (hSw.1.at' hlt2) Tryd.underlying30 rfl infoCube) hS ?_
                    try simp only [Act.put, List.setIfInBounds_toArray, List.set_cons_zero, List.set_cons_succ]
                    refine seqCall 12 rfl (by kernel_rfl) rfl (fun K hK => ?_)
                    go_simp
                    refine (HC.out _).mono ?_
                    rintro e w5 ⟨rfl, hw5⟩
                    refine hK.out _ _ (RlS.below hw5 hS) (fun hS => ?_)
                    clear hK K hw5
                    try simp only [Act.put, List.setIfInBounds_toArray, List.set_cons_zero, List.set_cons_succ]
                    refine seqRead 13 (v := _) rfl (by kernel_rfl) (by kernel_rfl) (by kernel_rfl) (fun _ _ _ h => h) rfl (fun w hSw => by go_simp <;> with_reducible rfl) hS ?_
                    try simp only [Act.put, List.setIfInBounds_toArray, List.set_cons_zero, List.set_cons_succ]
                    refine seqRead 14 (v := _) rfl (by kernel_rfl) (by kernel_rfl) (by kernel_rfl) (fun _ _ _ h => h) rfl (fun w hSw => by go_simp <;> with_reducible rfl) hS ?_
                    try simp only [Act.put, List.setIfInBounds_toArray, List.set_cons_zero, List.set_cons_succ]
                    refine seqRead 15 (v := _) rfl (by kernel_rfl) (by kernel_rfl) (by kernel_rfl) (fun _ _ _ h => h) rfl (fun w hSw => by go_simp <;> with_reducible rfl) hS ?_
                    try simp only [Act.put, List.setIfInBounds_toArray, List.set_cons_zero, List.set_cons_succ]
                    refine seqRead 16 (v := _) rfl (by kernel_rfl) (by kernel_rfl) (by kernel_rfl) (fun _ _ _ h => h) rfl (fun w hSw => by go_simp <;> with_reducible rfl) hS ?_
                    try simp only [Act.put, List.setIfInBounds_toArray, List.set_cons_zero, List.set_cons_succ]
                    refine seqRead 17 (v := _) rfl (by kernel_rfl) (by kernel_rfl) (by kernel_rfl) (fun _ _ _ h => h) rfl (fun w hSw => by go_simp <;> with_reducible rfl) hS ?_
                    try simp only [Act.put, List.setIfInBounds_toArray, List.set_cons_zero, List.set_cons_succ]
                    refine seqRead 18 (v := _) rfl (by kernel_rfl) (by kernel_rfl) (by kernel_rfl) (fun _ _ _ h => h) rfl (fun w hSw => execRow rfl b (o + s * 24) rfl (cl (nth l s)) _ (hSw.1.at' hlt2) Tryd.underlying30 rfl infoCube) hS ?_
                    try simp only [Act.put, List.setIfInBounds_toArray, List.set_cons_zero, List.set_cons_succ]
                    refine seqRead 19 (v := _) rfl (by kernel_rfl) (by kernel_rfl) (by kernel_rfl) (fun _ _ _ h => h) rfl (fun w hSw => by go_simp <;> with_reducible rfl) hS ?_
                    try simp only [Act.put, List.setIfInBounds_toArray, List.set_cons_zero, List.set_cons_succ]
                    refine seqRead 20 (v := _) rfl (by kernel_rfl) (by kernel_rfl) (by kernel_rfl) (fun _ _ _ h => h) rfl (fun w hSw => by go_simp <;> with_reducible rfl) hS ?_
                    try simp only [Act.put, List.setIfInBounds_toArray, List.set_cons_zero, List.set_cons_succ]
                    refine seqRead 21 (v := _) rfl (by kernel_rfl) (by kernel_rfl) (by kernel_rfl) (fun _ _ _ h => h) rfl (fun w hSw => by go_simp <;> with_reducible rfl) hS ?_
                    try simp only [Act.put, List.setIfInBounds_toArray, List.set_cons_zero, List.set_cons_succ]
                    refine seqRead 22 (v := _) rfl (by kernel_rfl) (by kernel_rfl) (by kernel_rfl) (fun _ _ _ h => h) rfl (fun w hSw => execRow rfl b (o + r * 24) rfl (cl (nth l r)) _ (hSw.1.at' hlt) Tryd.underlying30 rfl infoCube) hS ?_
                    try simp only [Act.put, List.setIfInBounds_toArray, List.set_cons_zero, List.set_cons_succ]
                    refine seqRead 23 (v := _) rfl (by kernel_rfl) (by kernel_rfl) (by kernel_rfl) (fun _ _ _ h => h) rfl (fun w hSw => by go_simp <;> with_reducible rfl) hS ?_
                    try simp only [Act.put, List.setIfInBounds_toArray, List.set_cons_zero, List.set_cons_succ]
                    refine seqRead 24 (v := _) rfl (by kernel_rfl) (by kernel_rfl) (by kernel_rfl) (fun _ _ _ h => h) rfl (fun w hSw => by go_simp <;> with_reducible rfl) hS ?_
                    try simp only [Act.put, List.setIfInBounds_toArray, List.set_cons_zero, List.set_cons_succ]
                    refine seqRead 25 (v := _) rfl (by kernel_rfl) (by kernel_rfl) (by kernel_rfl) (fun _ _ _ h => h) rfl (fun w hSw => by go_simp <;> with_reducible rfl) hS ?_
                    try simp only [Act.put, List.setIfInBounds_toArray, List.set_cons_zero, List.set_cons_succ]
                    refine seqRead 26 (v := _) rfl (by kernel_rfl) (by kernel_rfl) (by kernel_rfl) (fun _ _ _ h => h) rfl (fun w hSw => by go_simp <;> with_reducible rfl) hS ?_
                    try simp only [Act.put, List.setIfInBounds_toArray, List.set_cons_zero, List.set_cons_succ]
                    refine seqRead 27 (v := _) rfl (by kernel_rfl) (by kernel_rfl) (by kernel_rfl) (fun _ _ _ h => h) rfl (fun w hSw => by go_simp <;> with_reducible rfl) hS ?_
                    try simp only [Act.put, List.setIfInBounds_toArray, List.set_cons_zero, List.set_cons_succ]
                    refine seqRead 28 (v := _) rfl (by kernel_rfl) (by kernel_rfl) (by kernel_rfl) (fun _ _ _ h => h) rfl (fun w hSw => by go_simp <;> with_reducible rfl) hS ?_
                    try simp only [Act.put, List.setIfInBounds_toArray, List.set_cons_zero, List.set_cons_succ]
                    refine seqRead 29 (v := _) rfl (by kernel_rfl) (by kernel_rfl) (by kernel_rfl) (fun _ _ _ h => h) rfl (fun w hSw => by go_simp <;> with_reducible rfl) hS ?_
                    try simp only [Act.put, List.setIfInBounds_toArray, List.set_cons_zero, List.set_cons_succ]
                    refine seqDone (by kernel_rfl) ?_
                    have HS := Lib.hid hS
                    clear hS heq HC hne hsI hsD
                    go_wp2_with fail
                    go_roundg (l.length - (s + 1))
                    case measure => omega
                    case rel => exact ⟨s + 1, false, by omega, by go_num, rfl, by rw [HU.out, HX.out]; rfl, HS.out⟩
                  · have HX := Lib.hid (show offR l r s = false from by simp only [offR, hin, hce, hne', decide_eq_false hsr]; rfl)
                    have hsI : ¬ (s : Int) < (r : Int) := by omega
                    have hsD : decide ((s : Int) < (r : Int)) = false := decide_eq_false hsI
                    clear hin hce hne' hsr
                    refine seqRead 0 (v := _) rfl (by kernel_rfl) (by kernel_rfl) (by kernel_rfl) (fun _ _ _ h => h) rfl (fun w hSw => by go_simp <;> with_reducible rfl) hS ?_
                    try simp only [Act.put, List.setIfInBounds_toArray, List.set_cons_zero, List.set_cons_succ]
                    refine seqRead 1 (v := _) rfl (by kernel_rfl) (by kernel_rfl) (by kernel_rfl) (fun _ _ _ h => h) rfl (fun w hSw => by go_simp <;> with_reducible rfl) hS ?_
                    try simp only [Act.put, List.setIfInBounds_toArray, List.set_cons_zero, List.set_cons_succ]
                    refine seqRead 2 (v := _) rfl (by kernel_rfl) (by kernel_rfl) (by kernel_rfl) (fun _ _ _ h => h) rfl (fun w hSw => by go_simp <;> with_reducible rfl) hS ?_
                    try simp only [Act.put, List.setIfInBounds_toArray, List.set_cons_zero, List.set_cons_succ]
                    refine seqRead 3 (v := _) rfl (by kernel_rfl) (by kernel_rfl) (by kernel_rfl) (fun _ _ _ h => h) rfl (fun w hSw => by go_simp <;> with_reducible rfl) hS ?_
                    try simp only [Act.put, List.setIfInBounds_toArray, List.set_cons_zero, List.set_cons_succ]
                    refine seqRead 4 (v := _) rfl (by kernel_rfl) (by kernel_rfl) (by kernel_rfl) (fun _ _ _ h => h) rfl (fun w hSw => by go_simp <;> with_reducible rfl) hS ?_
                    try simp only [Act.put, List.setIfInBounds_toArray, List.set_cons_zero, List.set_cons_succ]
                    refine seqRead 5 (v := _) rfl (by kernel_rfl) (by kernel_rfl) (by kernel_rfl) (fun _ _ _ h => h) rfl (fun w hSw => by go_simp <;> with_reducible rfl) hS ?_
                    try simp only [Act.put, List.setIfInBounds_toArray, List.set_cons_zero, List.set_cons_succ]
                    refine seqRead 6 (v := _) rfl (by kernel_rfl) (by kernel_rfl) (by kernel_rfl) (fun _ _ _ h => h) rfl (fun w hSw => by go_simp <;> with_reducible rfl) hS ?_
                    try simp only [Act.put, List.setIfInBounds_toArray, List.set_cons_zero, List.set_cons_succ]
                    refine seqRead 7 (v := _) rfl (by kernel_rfl) (by kernel_rfl) (by kernel_rfl) (fun _ _ _ h => h) rfl (fun w hSw => execRow rfl b (o + r * 24) rfl (cl (nth l r)) _ (hSw.1.at' hlt) Tryd.underlying30 rfl infoCube) hS ?_
                    try simp only [Act.put, List.setIfInBounds_toArray, List.set_cons_zero, List.set_cons_succ]
                    refine seqRead 8 (v := _) rfl (by kernel_rfl) (by kernel_rfl) (by kernel_rfl) (fun _ _ _ h => h) rfl (fun w hSw => by go_simp <;> with_reducible rfl) hS ?_
                    try simp only [Act.put, List.setIfInBounds_toArray, List.set_cons_zero, List.set_cons_succ]
                    refine seqRead 9 (v := _) rfl (by kernel_rfl) (by kernel_rfl) (by kernel_rfl) (fun _ _ _ h => h) rfl (fun w hSw => by go_simp <;> with_reducible rfl) hS ?_
                    try simp only [Act.put, List.setIfInBounds_toArray, List.set_cons_zero, List.set_cons_succ]
                    refine seqRead 10 (v := _) rfl (by kernel_rfl) (by kernel_rfl) (by kernel_rfl) (fun _ _ _ h => h) rfl (fun w hSw => by go_simp <;> with_reducible rfl) hS ?_
                    try simp only [Act.put, List.setIfInBounds_toArray, List.set_cons_zero, List.set_cons_succ]
                    refine seqRead 11 (v := _) rfl (by kernel_rfl) (by kernel_rfl) (by kernel_rfl) (fun _ _ _ h => h) rfl (fun w hSw => execRow rfl b (o + s * 24) rfl (cl (nth l s)) _ (hSw.1.at' hlt2) Tryd.underlying30 rfl infoCube) hS ?_
                    try simp only [Act.put, List.setIfInBounds_toArray, List.set_cons_zero, List.set_cons_succ]
                    refine seqCall 12 rfl (by kernel_rfl) rfl (fun K hK => ?_)
                    go_simp
                    refine (HC.out _).mono ?_
                    rintro e w5 ⟨rfl, hw5⟩
                    refine hK.out _ _ (RlS.below hw5 hS) (fun hS => ?_)
                    clear hK K hw5
                    try simp only [Act.put, List.setIfInBounds_toArray, List.set_cons_zero, List.set_cons_succ]
                    refine seqRead 13 (v := _) rfl (by kernel_rfl) (by kernel_rfl) (by kernel_rfl) (fun _ _ _ h => h) rfl (fun w hSw => by go_simp <;> with_reducible rfl) hS ?_
                    try simp only [Act.put, List.setIfInBounds_toArray, List.set_cons_zero, List.set_cons_succ]
                    refine seqRead 14 (v := _) rfl (by kernel_rfl) (by kernel_rfl) (by kernel_rfl) (fun _ _ _ h => h) rfl (fun w hSw => by go_simp <;> with_reducible rfl) hS ?_
                    try simp only [Act.put, List.setIfInBounds_toArray, List.set_cons_zero, List.set_cons_succ]
                    refine seqRead 15 (v := _) rfl (by kernel_rfl) (by kernel_rfl) (by kernel_rfl) (fun _ _ _ h => h) rfl (fun w hSw => by go_simp <;> with_reducible rfl) hS ?_
                    try simp only [Act.put, List.setIfInBounds_toArray, List.set_cons_zero, List.set_cons_succ]
                    refine seqRead 16 (v := _) rfl (by kernel_rfl) (by kernel_rfl) (by kernel_rfl) (fun _ _ _ h => h) rfl (fun w hSw => by go_simp <;> with_reducible rfl) hS ?_
                    try simp only [Act.put, List.setIfInBounds_toArray, List.set_cons_zero, List.set_cons_succ]
                    refine seqRead 17 (v := _) rfl (by kernel_rfl) (by kernel_rfl) (by kernel_rfl) (fun _ _ _ h => h) rfl (fun w hSw => by go_simp <;> with_reducible rfl) hS ?_
                    try simp only [Act.put, List.setIfInBounds_toArray, List.set_cons_zero, List.set_cons_succ]
                    refine seqRead 18 (v := _) rfl (by kernel_rfl) (by kernel_rfl) (by kernel_rfl) (fun _ _ _ h => h) rfl (fun w hSw => execRow rfl b (o + s * 24) rfl (cl (nth l s)) _ (hSw.1.at' hlt2) Tryd.underlying30 rfl infoCube) hS ?_
                    try simp only [Act.put, List.setIfInBounds_toArray, List.set_cons_zero, List.set_cons_succ]
                    refine seqRead 19 (v := _) rfl (by kernel_rfl) (by kernel_rfl) (by kernel_rfl) (fun _ _ _ h => h) rfl (fun w hSw => by go_simp <;> with_reducible rfl) hS ?_
                    try simp only [Act.put, List.setIfInBounds_toArray, List.set_cons_zero, List.set_cons_succ]
                    refine seqRead 20 (v := _) rfl (by kernel_rfl) (by kernel_rfl) (by kernel_rfl) (fun _ _ _ h => h) rfl (fun w hSw => by go_simp <;> with_reducible rfl) hS ?_
                    try simp only [Act.put, List.setIfInBounds_toArray, List.set_cons_zero, List.set_cons_succ]
                    refine seqRead 21 (v := _) rfl (by kernel_rfl) (by kernel_rfl) (by kernel_rfl) (fun _ _ _ h => h) rfl (fun w hSw => by go_simp <;> with_reducible rfl) hS ?_
                    try simp only [Act.put, List.setIfInBounds_toArray, List.set_cons_zero, List.set_cons_succ]
                    refine seqRead 22 (v := _) rfl (by kernel_rfl) (by kernel_rfl) (by kernel_rfl) (fun _ _ _ h => h) rfl (fun w hSw => execRow rfl b (o + r * 24) rfl (cl (nth l r)) _ (hSw.1.at' hlt) Tryd.underlying30 rfl infoCube) hS ?_
                    try simp only [Act.put, List.setIfInBounds_toArray, List.set_cons_zero, List.set_cons_succ]
                    refine seqRead 23 (v := _) rfl (by kernel_rfl) (by kernel_rfl) (by kernel_rfl) (fun _ _ _ h => h) rfl (fun w hSw => by go_simp <;> with_reducible rfl) hS ?_
                    try simp only [Act.put, List.setIfInBounds_toArray, List.set_cons_zero, List.set_cons_succ]
                    refine seqRead 24 (v := _) rfl (by kernel_rfl) (by kernel_rfl) (by kernel_rfl) (fun _ _ _ h => h) rfl (fun w hSw => by go_simp <;> with_reducible rfl) hS ?_
                    try simp only [Act.put, List.setIfInBounds_toArray, List.set_cons_zero, List.set_cons_succ]
                    refine seqRead 25 (v := _) rfl (by kernel_rfl) (by kernel_rfl) (by kernel_rfl) (fun _ _ _ h => h) rfl (fun w hSw => by go_simp <;> with_reducible rfl) hS ?_
                    try simp only [Act.put, List.setIfInBounds_toArray, List.set_cons_zero, List.set_cons_succ]
                    refine seqRead 26 (v := _) rfl (by kernel_rfl) (by kernel_rfl) (by kernel_rfl) (fun _ _ _ h => h) rfl (fun w hSw => by go_simp <;> with_reducible rfl) hS ?_
                    try simp only [Act.put, List.setIfInBounds_toArray, List.set_cons_zero, List.set_cons_succ]
                    refine seqRead 27 (v := _) rfl (by kernel_rfl) (by kernel_rfl) (by kernel_rfl) (fun _ _ _ h => h) rfl (fun w hSw => by go_simp <;> with_reducible rfl) hS ?_
                    try simp only [Act.put, List.setIfInBounds_toArray, List.set_cons_zero, List.set_cons_succ]
                    refine seqRead 28 (v := _) rfl (by kernel_rfl) (by kernel_rfl) (by kernel_rfl) (fun _ _ _ h => h) rfl (fun w hSw => by go_simp <;> with_reducible rfl) hS ?_
                    try simp only [Act.put, List.setIfInBounds_toArray, List.set_cons_zero, List.set_cons_succ]
                    refine seqRead 29 (v := _) rfl (by kernel_rfl) (by kernel_rfl) (by kernel_rfl) (fun _ _ _ h => h) rfl (fun w hSw => by go_simp <;> with_reducible rfl) hS ?_
                    try simp only [Act.put, List.setIfInBounds_toArray, List.set_cons_zero, List.set_cons_succ]
                    refine seqDone (by kernel_rfl) ?_
                    have HS := Lib.hid hS
                    clear hS heq HC hne hsI hsD
                    go_wp2_with fail
                    go_roundg (l.length - (s + 1))
                    case measure => omega
                    case rel => exact ⟨s + 1, true, by omega, by go_num, rfl, by rw [HU.out, HX.out]; rfl, HS.out⟩
          · have hltI2 : ¬ (s : Int) < (l.length : Int) := by omega
            have hkp : keepR l r = true := by
              have e := HY.out
              rw [show s = l.length by omega, yR_keep] at e
              exact e.symm
            have HK := Lib.hid (keptR_yes hkp)
            clear hkp HY
            have HR := Lib.hid (HS.out.1.at' hlt)
            have HS1 := Lib.hid (RlS.below (below1 wr (.cells (cc (nth l r)) 30)) HS.out)
            have hll' : lout.length + [nth l r].length ≤ 1000000 := by simp; omega
            have hsz := HS1.out.2.2.size
            have HL2 := Lib.hid HL.out
            clear HL
            generalize nth l r = c at *
            go_upto_region 13 with (first
              | (refine wpList_load_mid rfl 30 (.tmp 63) rfl b (o + r * 24) rfl (cl c) _ HR.out Tryd.underlying30 rfl infoCube ?_)
              | (refine buildCube rfl (.tmp 64) rfl c rfl ?_)
              | (refine appendL rfl (.tmp 60) (.tmp 65) rfl w.heap.size _ lout [c] rfl HS1.out.2.1 _ rfl (Lies.one (Blk.new wr _ _)) hsz hll' (fun v' w6 ho hg _ => ?_)))
            have HB6 := Lib.hid (belowOwn HS1.out.2.2 HS1.out.2.1 (Nat.le_refl _) hg)
            obtain ⟨g, capo, hv, hge, _⟩ := World.ownsRow.form ho (by simp)
            have HO6 := Lib.hid (OwnsAt.of (hv ▸ ho)).1
            rw [List.length_append, List.length_singleton] at hv
            subst hv
            clear ho hg HS1 HR HS hsz hll'
            go_wp2_with fail
            go_loopg [7] lout.length (fun kk kv wr => ∃ A B, A.length = kk ∧ kv = .int .i64 (kk : Int) ∧ A ++ B = lout ∧ (∀ x ∈ B, cOrd c x < 0) ∧ OwnsAt g capo (A ++ c :: B) wr ∧ Below w.heap.size w wr)
            case atStart => exact ⟨lout, [], rfl, by go_num, by simp, fun x hx => (by cases hx), HO6.out, HB6.out⟩
            case round =>
              clear HO6 HB6
              obtain ⟨A, B, hA, rfl, hAB, hB, hO, hBe⟩ := hrel
              have hlenD : (A ++ c :: B).length = lout.length + 1 := by rw [← hAB]; simp; omega
              have HE := Lib.hid (show (A = [] ∨ ∃ A' a, A = A' ++ [a] ∧ ¬ cOrd c a < 0) → ∀ W, OwnsAt g capo (A ++ c :: B) W → Below w.heap.size w W → Sorted (A ++ c :: B) ∧ (A ++ c :: B).Perm (keptR l (r + 1)) ∧ (A ++ c :: B).length ≤ r + 1 ∧ RlS w (.slice (some ⟨b, o, none⟩) l.length cap) l (.slice (some ⟨g, 0, none⟩) (lout.length + 1) capo) (A ++ c :: B) W from fun hA W hOW hBW => by
                refine ⟨insert_sorted (by rw [hAB]; exact HO.out.1) hB hA, by rw [HK.out]; exact insert_perm (by rw [hAB]; exact HO.out.2), by omega, HL2.out.below hBW, ?_, hBW⟩
                have := hOW.owns hge
                rwa [hlenD] at this)
              rcases snoc_cases A with rfl | ⟨A', a, rfl⟩
              · have hk0 : gk = 0 := by simpa using hA.symm
                subst hk0
                have H0 := Lib.hid (And.intro hO hBe)
                clear hO hBe hAB hB hA hlenD
                have hp0 : ¬ ((0 : Int) < 0) := by omega
                go_upto_region 14 with (fail)
                refine wp_region_held_drew (S := In0 w g capo ([] ++ c :: B)) (by kernel_rfl) (In0.below (Below.refl _ _).drew H0.out) (fun hS => ?_)
                clear H0
                refine seqRead 0 (v := _) rfl (by kernel_rfl) (by kernel_rfl) (by kernel_rfl) (fun _ _ _ h => h) rfl (fun w hSw => by go_simp <;> with_reducible rfl) hS ?_
                try simp only [Act.put, List.setIfInBounds_toArray, List.set_cons_zero, List.set_cons_succ]
                refine seqRead 1 (v := _) rfl (by kernel_rfl) (by kernel_rfl) (by kernel_rfl) (fun _ _ _ h => h) rfl (fun w hSw => by go_simp <;> with_reducible rfl) hS ?_
                try simp only [Act.put, List.setIfInBounds_toArray, List.set_cons_zero, List.set_cons_succ]
                refine seqRead 2 (v := _) rfl (by kernel_rfl) (by kernel_rfl) (by kernel_rfl) (fun _ _ _ h => h) rfl (fun w hSw => by go_simp <;> with_reducible rfl) hS ?_
                try simp only [Act.put, List.setIfInBounds_toArray, List.set_cons_zero, List.set_cons_succ]
                refine seqSkip 3 rfl (by kernel_rfl) (by kernel_rfl) (by kernel_rfl) (fun _ _ _ h => h) rfl hS ?_
                try simp only [Act.put, List.setIfInBounds_toArray, List.set_cons_zero, List.set_cons_succ]
                refine seqSkip 4 rfl (by kernel_rfl) (by kernel_rfl) (by kernel_rfl) (fun _ _ _ h => h) rfl hS ?_
                try simp only [Act.put, List.setIfInBounds_toArray, List.set_cons_zero, List.set_cons_succ]
                refine seqSkip 5 rfl (by kernel_rfl) (by kernel_rfl) (by kernel_rfl) (fun _ _ _ h => h) rfl hS ?_
                try simp only [Act.put, List.setIfInBounds_toArray, List.set_cons_zero, List.set_cons_succ]
                refine seqSkip 6 rfl (by kernel_rfl) (by kernel_rfl) (by kernel_rfl) (fun _ _ _ h => h) rfl hS ?_
                try simp only [Act.put, List.setIfInBounds_toArray, List.set_cons_zero, List.set_cons_succ]
                refine seqSkip 7 rfl (by kernel_rfl) (by kernel_rfl) (by kernel_rfl) (fun _ _ _ h => h) rfl hS ?_
                try simp only [Act.put, List.setIfInBounds_toArray, List.set_cons_zero, List.set_cons_succ]
                refine seqSkip 8 rfl (by kernel_rfl) (by kernel_rfl) (by kernel_rfl) (fun _ _ _ h => h) rfl hS ?_
                try simp only [Act.put, List.setIfInBounds_toArray, List.set_cons_zero, List.set_cons_succ]
                refine seqSkip 9 rfl (by kernel_rfl) (by kernel_rfl) (by kernel_rfl) (fun _ _ _ h => h) rfl hS ?_
                try simp only [Act.put, List.setIfInBounds_toArray, List.set_cons_zero, List.set_cons_succ]
                refine seqSkip 10 rfl (by kernel_rfl) (by kernel_rfl) (by kernel_rfl) (fun _ _ _ h => h) rfl hS ?_
                try simp only [Act.put, List.setIfInBounds_toArray, List.set_cons_zero, List.set_cons_succ]
                refine seqSkip 11 rfl (by kernel_rfl) (by kernel_rfl) (by kernel_rfl) (fun _ _ _ h => h) rfl hS ?_
                try simp only [Act.put, List.setIfInBounds_toArray, List.set_cons_zero, List.set_cons_succ]
                refine seqSkip 12 rfl (by kernel_rfl) (by kernel_rfl) (by kernel_rfl) (fun _ _ _ h => h) rfl hS ?_
                try simp only [Act.put, List.setIfInBounds_toArray, List.set_cons_zero, List.set_cons_succ]
                refine seqSkip 13 rfl (by kernel_rfl) (by kernel_rfl) (by kernel_rfl) (fun _ _ _ h => h) rfl hS ?_
                try simp only [Act.put, List.setIfInBounds_toArray, List.set_cons_zero, List.set_cons_succ]
                refine seqRead 14 (v := _) rfl (by kernel_rfl) (by kernel_rfl) (by kernel_rfl) (fun _ _ _ h => h) rfl (fun w hSw => by go_simp <;> with_reducible rfl) hS ?_
                try simp only [Act.put, List.setIfInBounds_toArray, List.set_cons_zero, List.set_cons_succ]
                refine seqDone (by kernel_rfl) ?_
                have HQ := Lib.hid (HE.out (.inl rfl) _ hS.1 hS.2)
                clear hS HE
                go_wp2_with fail
                go_roundg (l.length - (r + 1))
                case measure => omega
                case rel => exact ⟨r + 1, [] ++ c :: B, by omega, by go_num, HQ.out.1, HQ.out.2.1, HQ.out.2.2.1, HQ.out.2.2.2⟩
              · obtain ⟨u, hu⟩ : ∃ u, u = A'.length := ⟨_, rfl⟩
                have hgk : gk = u + 1 := by rw [← hA, hu]; simp
                subst hgk
                have hul : u < lout.length := by rw [← hAB, hu]; simp
                have e1 : nth (A' ++ [a] ++ c :: B) (u + 1) = c := by rw [hu]; simp [nth]
                have e2 : nth (A' ++ [a] ++ c :: B) u = a := by rw [hu]; simp [nth]
                have HI := Lib.hid (show InS w g capo (A' ++ [a] ++ c :: B) u c a wr from ⟨hO, hBe, by have := hO.range (i := u + 1) (by omega); rwa [e1] at this, by have := hO.range (i := u) (by omega); rwa [e2] at this⟩)
                have HC := Lib.hid (fun W => rccmp_any c a W)
                have HN := Lib.hid (show cOrd c a < 0 → A'.length = u ∧ A' ++ (a :: B) = lout ∧ (∀ x ∈ a :: B, cOrd c x < 0) from fun h => ⟨hu.symm, by rw [← hAB]; simp, fun x hx => by
                  rcases List.mem_cons.1 hx with rfl | hx
                  · exact h
                  · exact hB x hx⟩)
                have HEx := Lib.hid (show ¬ cOrd c a < 0 → _ from fun h => HE.out (.inr ⟨A', a, rfl, h⟩))
                have hsw : ((A' ++ [a] ++ c :: B).set (u + 1) a).set u c = A' ++ c :: (a :: B) := by
                  rw [hu]
                  simp
                have HSw := Lib.hid hsw
                have hid1 : u + 1 < (A' ++ [a] ++ c :: B).length := by omega
                have hid2 : u < ((A' ++ [a] ++ c :: B).set (u + 1) a).length := by rw [List.length_set]; omega
                have hpos : (0 : Int) < (u : Int) + 1 := by omega
                have hnn : (0 : Int) ≤ (u : Int) + 1 := by omega
                have hwr : IntKind.i64.wrap (u : Int) = u := by
                  simp [IntKind.wrap, IntKind.bits, IntKind.signed]
                  omega
                have hi1 : (u : Int) + 1 < (lout.length : Int) + 1 := by omega
                have hi2 : (u : Int) < (lout.length : Int) + 1 := by omega
                clear hO hBe hAB hB hA hlenD e1 e2 hu hsw HE
                generalize A' ++ [a] ++ c :: B = d at *
                generalize cOrd c a = qq at *
                by_cases hq : qq < 0
                · have hqD : decide (qq < 0) = true := decide_eq_true hq
                  go_upto_region 14 with (fail)
                  refine wp_region_held_drew (S := InS w g capo d u c a) (by kernel_rfl) (InS.below (Below.refl _ _).drew HI.out) (fun hS => ?_)
                  clear HI
                  refine seqRead 0 (v := _) rfl (by kernel_rfl) (by kernel_rfl) (by kernel_rfl) (fun _ _ _ h => h) rfl (fun w hSw => by go_simp <;> with_reducible rfl) hS ?_
                  try simp only [Act.put, List.setIfInBounds_toArray, List.set_cons_zero, List.set_cons_succ]
                  refine seqRead 1 (v := _) rfl (by kernel_rfl) (by kernel_rfl) (by kernel_rfl) (fun _ _ _ h => h) rfl (fun w hSw => by go_simp <;> with_reducible rfl) hS ?_
                  try simp only [Act.put, List.setIfInBounds_toArray, List.set_cons_zero, List.set_cons_succ]
                  refine seqRead 2 (v := _) rfl (by kernel_rfl) (by kernel_rfl) (by kernel_rfl) (fun _ _ _ h => h) rfl (fun w hSw => by go_simp <;> with_reducible rfl) hS ?_
                  try simp only [Act.put, List.setIfInBounds_toArray, List.set_cons_zero, List.set_cons_succ]
                  refine seqRead 3 (v := _) rfl (by kernel_rfl) (by kernel_rfl) (by kernel_rfl) (fun _ _ _ h => h) rfl (fun w hSw => by go_simp <;> with_reducible rfl) hS ?_
                  try simp only [Act.put, List.setIfInBounds_toArray, List.set_cons_zero, List.set_cons_succ]
                  refine seqRead 4 (v := _) rfl (by kernel_rfl) (by kernel_rfl) (by kernel_rfl) (fun _ _ _ h => h) rfl (fun w hSw => by go_simp <;> with_reducible rfl) hS ?_
                  try simp only [Act.put, List.setIfInBounds_toArray, List.set_cons_zero, List.set_cons_succ]
                  refine seqRead 5 (v := _) rfl (by kernel_rfl) (by kernel_rfl) (by kernel_rfl) (fun _ _ _ h => h) rfl (fun w hSw => by go_simp <;> with_reducible rfl) hS ?_
                  try simp only [Act.put, List.setIfInBounds_toArray, List.set_cons_zero, List.set_cons_succ]
                  refine seqRead 6 (v := _) rfl (by kernel_rfl) (by kernel_rfl) (by kernel_rfl) (fun _ _ _ h => h) rfl (fun w hSw => execRow rfl g ((u + 1) * 24) rfl (cl c) _ (hSw.2.2.1) Tryd.underlying30 rfl infoCube) hS ?_
                  try simp only [Act.put, List.setIfInBounds_toArray, List.set_cons_zero, List.set_cons_succ]
                  refine seqRead 7 (v := _) rfl (by kernel_rfl) (by kernel_rfl) (by kernel_rfl) (fun _ _ _ h => h) rfl (fun w hSw => by go_simp <;> with_reducible rfl) hS ?_
                  try simp only [Act.put, List.setIfInBounds_toArray, List.set_cons_zero, List.set_cons_succ]
                  refine seqRead 8 (v := _) rfl (by kernel_rfl) (by kernel_rfl) (by kernel_rfl) (fun _ _ _ h => h) rfl (fun w hSw => by go_simp <;> with_reducible rfl) hS ?_
                  try simp only [Act.put, List.setIfInBounds_toArray, List.set_cons_zero, List.set_cons_succ]
                  refine seqRead 9 (v := _) rfl (by kernel_rfl) (by kernel_rfl) (by kernel_rfl) (fun _ _ _ h => h) rfl (fun w hSw => by go_simp <;> with_reducible rfl) hS ?_
                  try simp only [Act.put, List.setIfInBounds_toArray, List.set_cons_zero, List.set_cons_succ]
                  refine seqRead 10 (v := _) rfl (by kernel_rfl) (by kernel_rfl) (by kernel_rfl) (fun _ _ _ h => h) rfl (fun w hSw => by go_simp <;> with_reducible rfl) hS ?_
                  try simp only [Act.put, List.setIfInBounds_toArray, List.set_cons_zero, List.set_cons_succ]
                  refine seqRead 11 (v := _) rfl (by kernel_rfl) (by kernel_rfl) (by kernel_rfl) (fun _ _ _ h => h) rfl (fun w hSw => execRow rfl g (u * 24) rfl (cl a) _ (hSw.2.2.2) Tryd.underlying30 rfl infoCube) hS ?_
                  try simp only [Act.put, List.setIfInBounds_toArray, List.set_cons_zero, List.set_cons_succ]
                  refine seqCall 12 rfl (by kernel_rfl) rfl (fun K hK => ?_)
                  go_simp
                  refine (HC.out _).mono ?_
                  rintro e w5 ⟨rfl, hw5⟩
                  refine hK.out _ _ (InS.below hw5 hS) (fun hS => ?_)
                  clear hK K hw5
                  try simp only [Act.put, List.setIfInBounds_toArray, List.set_cons_zero, List.set_cons_succ]
                  refine seqRead 13 (v := _) rfl (by kernel_rfl) (by kernel_rfl) (by kernel_rfl) (fun _ _ _ h => h) rfl (fun w hSw => by go_simp <;> with_reducible rfl) hS ?_
                  try simp only [Act.put, List.setIfInBounds_toArray, List.set_cons_zero, List.set_cons_succ]
                  refine seqRead 14 (v := _) rfl (by kernel_rfl) (by kernel_rfl) (by kernel_rfl) (fun _ _ _ h => h) rfl (fun w hSw => by go_simp <;> with_reducible rfl) hS ?_
                  try simp only [Act.put, List.setIfInBounds_toArray, List.set_cons_zero, List.set_cons_succ]
                  refine seqDone (by kernel_rfl) ?_
                  have HI := Lib.hid hS
                  clear hS HC
                  go_upto_region 16 with (fail)
                  have HI2 := Lib.hid (show InS w g capo d u c a w5.drew from InS.below (Below.refl _ _).drew HI.out)
                  have HO1 := Lib.hid (show OwnsAt g capo (d.set (u + 1) a) (w5.drew.setCells g ((u + 1) * 24) (cl a)) from HI2.out.1.set hid1 a)
                  have HB1 := Lib.hid (show Below w.heap.size w (w5.drew.setCells g ((u + 1) * 24) (cl a)) from Lib.below_setCells g hge _ _ HI2.out.2.1)
                  have HO2 := Lib.hid (show OwnsAt g capo ((d.set (u + 1) a).set u c) ((w5.drew.setCells g ((u + 1) * 24) (cl a)).setCells g (u * 24) (cl c)) from HO1.out.set hid2 c)
                  have HB2 := Lib.hid (show Below w.heap.size w ((w5.drew.setCells g ((u + 1) * 24) (cl a)).setCells g (u * 24) (cl c)) from Lib.below_setCells g hge _ _ HB1.out)
                  have HNq := Lib.hid (HN.out hq)
                  clear HI
                  refine wp_region_held_drew (S := fun _ => True) (by kernel_rfl) trivial (fun hS => ?_)
                  refine seqRead 0 (v := _) rfl (by kernel_rfl) (by kernel_rfl) (by kernel_rfl) (fun _ _ _ h => h) rfl (fun w hSw => by go_simp <;> with_reducible rfl) hS ?_
                  try simp only [Act.put, List.setIfInBounds_toArray, List.set_cons_zero, List.set_cons_succ]
                  refine seqRead 1 (v := _) rfl (by kernel_rfl) (by kernel_rfl) (by kernel_rfl) (fun _ _ _ h => h) rfl (fun w hSw => by go_simp <;> with_reducible rfl) hS ?_
                  try simp only [Act.put, List.setIfInBounds_toArray, List.set_cons_zero, List.set_cons_succ]
                  refine seqRead 2 (v := _) rfl (by kernel_rfl) (by kernel_rfl) (by kernel_rfl) (fun _ _ _ h => h) rfl (fun w hSw => by go_simp <;> with_reducible rfl) hS ?_
                  try simp only [Act.put, List.setIfInBounds_toArray, List.set_cons_zero, List.set_cons_succ]
                  refine seqRead 3 (v := _) rfl (by kernel_rfl) (by kernel_rfl) (by kernel_rfl) (fun _ _ _ h => h) rfl (fun w hSw => by go_simp <;> with_reducible rfl) hS ?_
                  try simp only [Act.put, List.setIfInBounds_toArray, List.set_cons_zero, List.set_cons_succ]
                  refine seqRead 4 (v := _) rfl (by kernel_rfl) (by kernel_rfl) (by kernel_rfl) (fun _ _ _ h => h) rfl (fun w hSw => by go_simp <;> with_reducible rfl) hS ?_
                  try simp only [Act.put, List.setIfInBounds_toArray, List.set_cons_zero, List.set_cons_succ]
                  refine seqRead 5 (v := _) rfl (by kernel_rfl) (by kernel_rfl) (by kernel_rfl) (fun _ _ _ h => h) rfl (fun w hSw => by go_simp <;> with_reducible rfl) hS ?_
                  try simp only [Act.put, List.setIfInBounds_toArray, List.set_cons_zero, List.set_cons_succ]
                  refine seqRead 6 (v := _) rfl (by kernel_rfl) (by kernel_rfl) (by kernel_rfl) (fun _ _ _ h => h) rfl (fun w hSw => by go_simp <;> with_reducible rfl) hS ?_
                  try simp only [Act.put, List.setIfInBounds_toArray, List.set_cons_zero, List.set_cons_succ]
                  refine seqRead 7 (v := _) rfl (by kernel_rfl) (by kernel_rfl) (by kernel_rfl) (fun _ _ _ h => h) rfl (fun w hSw => by go_simp <;> with_reducible rfl) hS ?_
                  try simp only [Act.put, List.setIfInBounds_toArray, List.set_cons_zero, List.set_cons_succ]
                  refine seqRead 8 (v := _) rfl (by kernel_rfl) (by kernel_rfl) (by kernel_rfl) (fun _ _ _ h => h) rfl (fun w hSw => by go_simp <;> with_reducible rfl) hS ?_
                  try simp only [Act.put, List.setIfInBounds_toArray, List.set_cons_zero, List.set_cons_succ]
                  refine seqRead 10 (v := _) rfl (by kernel_rfl) (by kernel_rfl) (by kernel_rfl) (fun _ _ _ h => h) rfl (fun w hSw => by go_simp <;> with_reducible rfl) hS ?_
                  try simp only [Act.put, List.setIfInBounds_toArray, List.set_cons_zero, List.set_cons_succ]
                  refine seqRead 11 (v := _) rfl (by kernel_rfl) (by kernel_rfl) (by kernel_rfl) (fun _ _ _ h => h) rfl (fun w hSw => by go_simp <;> with_reducible rfl) hS ?_
                  try simp only [Act.put, List.setIfInBounds_toArray, List.set_cons_zero, List.set_cons_succ]
                  refine seqRead 12 (v := _) rfl (by kernel_rfl) (by kernel_rfl) (by kernel_rfl) (fun _ _ _ h => h) rfl (fun w hSw => by go_simp <;> with_reducible rfl) hS ?_
                  try simp only [Act.put, List.setIfInBounds_toArray, List.set_cons_zero, List.set_cons_succ]
                  refine seqActs2 9 13 rfl rfl (by kernel_rfl) rfl (fun K hK => ?_) rfl (fun K hK => ?_)
                  · refine wp_load_mid 30 _ rfl g (u * 24) rfl (cl a) _ HI2.out.2.2.2 Tryd.underlying30 rfl infoCube ?_
                    refine hK.out _ _ trivial (fun hS => ?_)
                    clear hK K
                    try simp only [Act.put, List.setIfInBounds_toArray, List.set_cons_zero, List.set_cons_succ]
                    refine seqCall 13 rfl (by kernel_rfl) rfl (fun K hK => ?_)
                    refine wp_load_mid 30 _ rfl g ((u + 1) * 24) rfl (cl c) _ HI2.out.2.2.1 Tryd.underlying30 rfl infoCube ?_
                    refine hK.out _ _ trivial (fun hS => ?_)
                    clear hK K
                    try simp only [Act.put, List.setIfInBounds_toArray, List.set_cons_zero, List.set_cons_succ]
                    refine seqRead 14 (v := _) rfl (by kernel_rfl) (by kernel_rfl) (by kernel_rfl) (fun _ _ _ h => h) rfl (fun w hSw => by go_simp <;> with_reducible rfl) hS ?_
                    try simp only [Act.put, List.setIfInBounds_toArray, List.set_cons_zero, List.set_cons_succ]
                    refine seqCall 15 rfl (by kernel_rfl) rfl (fun K hK => ?_)
                    refine storeCubeWp _ _ rfl g (u + 1) capo d a rfl rfl HI2.out.1 hid1 ?_
                    refine hK.out _ _ trivial (fun hS => ?_)
                    clear hK K
                    generalize w5.drew.setCells g ((u + 1) * 24) (cl a) = W6 at *
                    try simp only [Act.put]
                    refine seqRead 16 (v := _) rfl (by kernel_rfl) (by kernel_rfl) (by kernel_rfl) (fun _ _ _ h => h) rfl (fun w hSw => by go_simp <;> with_reducible rfl) hS ?_
                    try simp only [Act.put, List.setIfInBounds_toArray, List.set_cons_zero, List.set_cons_succ]
                    refine seqCall 17 rfl (by kernel_rfl) rfl (fun K hK => ?_)
                    refine storeCubeWp _ _ rfl g u capo (d.set (u + 1) a) c rfl rfl HO1.out hid2 ?_
                    refine hK.out _ _ trivial (fun hS => ?_)
                    clear hK K
                    try simp only [Act.put]
                    refine seqDone (by kernel_rfl) ?_
                    clear hS HI2 HO1 HB1
                    generalize W6.setCells g (u * 24) (cl c) = W2 at *
                    go_wp2_with fail
                    go_roundg u
                    case measure => omega
                    case rel => exact ⟨A', a :: B, HNq.out.1, by go_num, HNq.out.2.1, HNq.out.2.2, by rw [← HSw.out]; exact HO2.out, HB2.out⟩
                  · refine wp_load_mid 30 _ rfl g ((u + 1) * 24) rfl (cl c) _ HI2.out.2.2.1 Tryd.underlying30 rfl infoCube ?_
                    refine hK.out _ _ trivial (fun hS => ?_)
                    clear hK K
                    try simp only [Act.put, List.setIfInBounds_toArray, List.set_cons_zero, List.set_cons_succ]
                    refine seqCall 9 rfl (by kernel_rfl) rfl (fun K hK => ?_)
                    refine wp_load_mid 30 _ rfl g (u * 24) rfl (cl a) _ HI2.out.2.2.2 Tryd.underlying30 rfl infoCube ?_
                    refine hK.out _ _ trivial (fun hS => ?_)
                    clear hK K
                    try simp only [Act.put, List.setIfInBounds_toArray, List.set_cons_zero, List.set_cons_succ]
                    refine seqRead 14 (v := _) rfl (by kernel_rfl) (by kernel_rfl) (by kernel_rfl) (fun _ _ _ h => h) rfl (fun w hSw => by go_simp <;> with_reducible rfl) hS ?_
                    try simp only [Act.put, List.setIfInBounds_toArray, List.set_cons_zero, List.set_cons_succ]
                    refine seqCall 15 rfl (by kernel_rfl) rfl (fun K hK => ?_)
                    refine storeCubeWp _ _ rfl g (u + 1) capo d a rfl rfl HI2.out.1 hid1 ?_
                    refine hK.out _ _ trivial (fun hS => ?_)
                    clear hK K
                    generalize w5.drew.setCells g ((u + 1) * 24) (cl a) = W6 at *
                    try simp only [Act.put]
                    refine seqRead 16 (v := _) rfl (by kernel_rfl) (by kernel_rfl) (by kernel_rfl) (fun _ _ _ h => h) rfl (fun w hSw => by go_simp <;> with_reducible rfl) hS ?_
                    try simp only [Act.put, List.setIfInBounds_toArray, List.set_cons_zero, List.set_cons_succ]
                    refine seqCall 17 rfl (by kernel_rfl) rfl (fun K hK => ?_)
                    refine storeCubeWp _ _ rfl g u capo (d.set (u + 1) a) c rfl rfl HO1.out hid2 ?_
                    refine hK.out _ _ trivial (fun hS => ?_)
                    clear hK K
                    try simp only [Act.put]
                    refine seqDone (by kernel_rfl) ?_
                    clear hS HI2 HO1 HB1
                    generalize W6.setCells g (u * 24) (cl c) = W2 at *
                    go_wp2_with fail
                    go_roundg u
                    case measure => omega
                    case rel => exact ⟨A', a :: B, HNq.out.1, by go_num, HNq.out.2.1, HNq.out.2.2, by rw [← HSw.out]; exact HO2.out, HB2.out⟩
                · have hqD : decide (qq < 0) = false := decide_eq_false hq
                  go_upto_region 14 with (fail)
                  refine wp_region_held_drew (S := InS w g capo d u c a) (by kernel_rfl) (InS.below (Below.refl _ _).drew HI.out) (fun hS => ?_)
                  clear HI
                  refine seqRead 0 (v := _) rfl (by kernel_rfl) (by kernel_rfl) (by kernel_rfl) (fun _ _ _ h => h) rfl (fun w hSw => by go_simp <;> with_reducible rfl) hS ?_
                  try simp only [Act.put, List.setIfInBounds_toArray, List.set_cons_zero, List.set_cons_succ]
                  refine seqRead 1 (v := _) rfl (by kernel_rfl) (by kernel_rfl) (by kernel_rfl) (fun _ _ _ h => h) rfl (fun w hSw => by go_simp <;> with_reducible rfl) hS ?_
                  try simp only [Act.put, List.setIfInBounds_toArray, List.set_cons_zero, List.set_cons_succ]
                  refine seqRead 2 (v := _) rfl (by kernel_rfl) (by kernel_rfl) (by kernel_rfl) (fun _ _ _ h => h) rfl (fun w hSw => by go_simp <;> with_reducible rfl) hS ?_
                  try simp only [Act.put, List.setIfInBounds_toArray, List.set_cons_zero, List.set_cons_succ]
                  refine seqRead 3 (v := _) rfl (by kernel_rfl) (by kernel_rfl) (by kernel_rfl) (fun _ _ _ h => h) rfl (fun w hSw => by go_simp <;> with_reducible rfl) hS ?_
                  try simp only [Act.put, List.setIfInBounds_toArray, List.set_cons_zero, List.set_cons_succ]
                  refine seqRead 4 (v := _) rfl (by kernel_rfl) (by kernel_rfl) (by kernel_rfl) (fun _ _ _ h => h) rfl (fun w hSw => by go_simp <;> with_reducible rfl) hS ?_
                  try simp only [Act.put, List.setIfInBounds_toArray, List.set_cons_zero, List.set_cons_succ]
                  refine seqRead 5 (v := _) rfl (by kernel_rfl) (by kernel_rfl) (by kernel_rfl) (fun _ _ _ h => h) rfl (fun w hSw => by go_simp <;> with_reducible rfl) hS ?_
                  try simp only [Act.put, List.setIfInBounds_toArray, List.set_cons_zero, List.set_cons_succ]
                  refine seqRead 6 (v := _) rfl (by kernel_rfl) (by kernel_rfl) (by kernel_rfl) (fun _ _ _ h => h) rfl (fun w hSw => execRow rfl g ((u + 1) * 24) rfl (cl c) _ (hSw.2.2.1) Tryd.underlying30 rfl infoCube) hS ?_
                  try simp only [Act.put, List.setIfInBounds_toArray, List.set_cons_zero, List.set_cons_succ]
                  refine seqRead 7 (v := _) rfl (by kernel_rfl) (by kernel_rfl) (by kernel_rfl) (fun _ _ _ h => h) rfl (fun w hSw => by go_simp <;> with_reducible rfl) hS ?_
                  try simp only [Act.put, List.setIfInBounds_toArray, List.set_cons_zero, List.set_cons_succ]
                  refine seqRead 8 (v := _) rfl (by kernel_rfl) (by kernel_rfl) (by kernel_rfl) (fun _ _ _ h => h) rfl (fun w hSw => by go_simp <;> with_reducible rfl) hS ?_
                  try simp only [Act.put, List.setIfInBounds_toArray, List.set_cons_zero, List.set_cons_succ]
                  refine seqRead 9 (v := _) rfl (by kernel_rfl) (by kernel_rfl) (by kernel_rfl) (fun _ _ _ h => h) rfl (fun w hSw => by go_simp <;> with_reducible rfl) hS ?_
                  try simp only [Act.put, List.setIfInBounds_toArray, List.set_cons_zero, List.set_cons_succ]
                  refine seqRead 10 (v := _) rfl (by kernel_rfl) (by kernel_rfl) (by kernel_rfl) (fun _ _ _ h => h) rfl (fun w hSw => by go_simp <;> with_reducible rfl) hS ?_
                  try simp only [Act.put, List.setIfInBounds_toArray, List.set_cons_zero, List.set_cons_succ]
                  refine seqRead 11 (v := _) rfl (by kernel_rfl) (by kernel_rfl) (by kernel_rfl) (fun _ _ _ h => h) rfl (fun w hSw => execRow rfl g (u * 24) rfl (cl a) _ (hSw.2.2.2) Tryd.underlying30 rfl infoCube) hS ?_
                  try simp only [Act.put, List.setIfInBounds_toArray, List.set_cons_zero, List.set_cons_succ]
                  refine seqCall 12 rfl (by kernel_rfl) rfl (fun K hK => ?_)
                  go_simp
                  refine (HC.out _).mono ?_
                  rintro e w5 ⟨rfl, hw5⟩
                  refine hK.out _ _ (InS.below hw5 hS) (fun hS => ?_)
                  clear hK K hw5
                  try simp only [Act.put, List.setIfInBounds_toArray, List.set_cons_zero, List.set_cons_succ]
                  refine seqRead 13 (v := _) rfl (by kernel_rfl) (by kernel_rfl) (by kernel_rfl) (fun _ _ _ h => h) rfl (fun w hSw => by go_simp <;> with_reducible rfl) hS ?_
                  try simp only [Act.put, List.setIfInBounds_toArray, List.set_cons_zero, List.set_cons_succ]
                  refine seqRead 14 (v := _) rfl (by kernel_rfl) (by kernel_rfl) (by kernel_rfl) (fun _ _ _ h => h) rfl (fun w hSw => by go_simp <;> with_reducible rfl) hS ?_
                  try simp only [Act.put, List.setIfInBounds_toArray, List.set_cons_zero, List.set_cons_succ]
                  refine seqDone (by kernel_rfl) ?_
                  have HQ := Lib.hid (HEx.out hq _ hS.1 hS.2.1)
                  clear hS HC
                  go_wp2_with fail
                  go_roundg (l.length - (r + 1))
                  case measure => omega
                  case rel => exact ⟨r + 1, d, by omega, by go_num, HQ.out.1, HQ.out.2.1, HQ.out.2.2.1, HQ.out.2.2.2⟩
    · have hltI : ¬ (r : Int) < (l.length : Int) := by omega
      have hdI : decide ((r : Int) < (l.length : Int)) = false := decide_eq_false hltI
      have hrl : r = l.length := by omega
      have HQ := Lib.hid (show RLean l lout from ⟨by rw [← hrl]; exact HO.out.2, HO.out.1⟩)
      clear hrl
      go_wp2_with fail
      go_ret
      exact ⟨lout, _, HQ.out, rfl, HS.out.2.1, HS.out.2.2⟩
theorem rlean_any (v : Value) (l : List (Nat → Int)) (hlen : l.length ≤ 1000) (hw : WfL l) (w : World) (hl : Lies v l w) : Calls Tryd.prog 14 #[v] w (RleRet w l) := by
  obtain ⟨p, cap, rfl⟩ := hl.form
  exact rlean_all p cap l hlen hw w hl
end Go.Proofs.YtamjaohoicedfaaDoor
