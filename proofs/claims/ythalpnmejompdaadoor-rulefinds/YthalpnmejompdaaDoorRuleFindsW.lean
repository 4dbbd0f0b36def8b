/-
  The walk of the law RuleFinds.
-/
import Derived.Test.YthalpnmejompdaaDoorRuleAns
namespace Go.Proofs.YthalpnmejompdaaDoor
open Go.RowKit

theorem fnd_before {h : Nat → Int} {l : List Rm} {n : Nat} (e : fnd h l = some n) : n < l.length ∧ ∀ (j : Nat) x, j < n → l[j]? = some x → hasB x.u.m h = false := by
  unfold fnd at e
  rw [List.findIdx?_eq_some_iff_getElem] at e
  obtain ⟨h1, _, h3⟩ := e
  refine ⟨h1, fun j x hj hx => ?_⟩
  have q := h3 j hj
  obtain ⟨hl, ex⟩ := List.getElem?_eq_some_iff.1 hx
  rw [ex] at q
  simpa using q
set_option maxRecDepth 100000 in
set_option maxHeartbeats 2000000 in
theorem ruleFinds_any (v : Value) (l : List Rm) (hw : WfRL l) (hlen : l.length ≤ 140737488355328) (h : Nat → Int) (hh : Wf h) (w0 : World) (hl : RLies v l w0) (ht : Tab w0) (hz : 0 < w0.heap.size) :
    Calls Tryd.prog 5 #[v, .agg (hc h)] w0 fun e w' => e = .returned (.bool true) ∧ Below w0.heap.size w0 w' := by
  obtain ⟨p, cap, rfl⟩ := hl.1.form
  have HS := Lib.hid (show FdS w0 (.slice p l.length cap) l h (w0.alloc (.cells (hc h) 24)) from ⟨hl.1.below okR (below1 _ _), Blk.new _ _ _, below1 _ _⟩)
  have HE := Lib.hid (fun (W : World) (hb : Below w0.heap.size w0 W) => (Env.start ht hz).predK W hb)
  have HA := Lib.hid (fun (W : World) (hS : FdS w0 (.slice p l.length cap) l h W) => ranswers W (HE.out W hS.2.2).1 (HE.out W hS.2.2).2)
  by_cases hn : 60 < l.length
  · have hnI : (60 : Int) < (l.length : Int) := by omega
    clear ht hl hw hh
    go_enter Tryd.func5, Tryd.ntmps5
    go_wp2_with (go_at_call 10; refine (HA.out _ HS.out).mono ?_; rintro e w1 ⟨rfl, hw1⟩)
    go_ret
    exact ⟨rfl, (FdS.below hw1 HS.out).2.2⟩
  · have hnI : ¬ (60 : Int) < (l.length : Int) := by omega
    have HF1 := Lib.hid (fun (W : World) (hS : FdS w0 (.slice p l.length cap) l h W) => find_any (.slice p l.length cap) l h (by omega) hw hh W (hl.below hS.2.2) (HE.out W hS.2.2).1 (HE.out W hS.2.2).2)
    have HF2 := Lib.hid (fun (W : World) (hS : FdS w0 (.slice p l.length cap) l h W) => rfind_any (.slice p l.length cap) l h (by omega) hw hh W (hl.below hS.2.2))
    have RH := Lib.hid HS.out.2.1
    have HW := Lib.hid hw
    have HH := Lib.hid hh
    clear ht hl hw hh HE
    cases hf : fnd h l with
    | none =>
      have ef : fndV h l = .tuple #[.int .i64 0, .bool false] := by unfold fndV; rw [hf]; rfl
      rw [ef] at HF1 HF2
      clear ef hf
      go_enter Tryd.func5, Tryd.ntmps5
      go_upto_region 7 with (first
        | (refine wpList_load_row rfl 24 _ rfl w0.heap.size rfl 24 (hc h) (0, 0) _ RH.out Tryd.underlying24 rfl (by kernel_rfl) ?_)
        | (go_at_call 26; refine (HF1.out _ HS.out).mono ?_; rintro e w1 ⟨rfl, hw1⟩; refine Hid.out ?_))
      have HS1 := Lib.hid (FdS.below hw1 HS.out)
      have RH1 := Lib.hid HS1.out.2.1
      clear hw1 HS RH HF1
      refine Lib.hid ?_
      go_upto_region 7 with (first
        | (refine wpList_load_row rfl 24 _ rfl w0.heap.size rfl 24 (hc h) (0, 0) _ RH1.out Tryd.underlying24 rfl (by kernel_rfl) ?_)
        | (go_at_call 27; refine (HF2.out _ HS1.out).mono ?_; rintro e w2 ⟨rfl, hw2⟩; refine Hid.out ?_))
      have HS2 := Lib.hid (FdS.below hw2 HS1.out)
      clear hw2 HS1 RH1 HF2
      refine Lib.hid ?_
      go_upto_region 7 with (go_at_call 10; refine (HA.out _ HS2.out).mono ?_; rintro e w3 ⟨rfl, hw3⟩; refine Hid.out ?_)
      have HS3 := Lib.hid (FdS.below hw3 HS2.out)
      clear hw3 HS2 HA
      refine Lib.hid ?_
      go_wp2_with fail
      go_loopg [9] 1 (fun k i wr => i = .int .i64 0 ∧ Below w0.heap.size w0 wr)
      case atStart => exact ⟨rfl, HS3.out.2.2⟩
      case round =>
        obtain ⟨rfl, hb⟩ := hrel
        clear HS3
        by_cases hq : 0 < l.length
        · have hqI : (0 : Int) < (l.length : Int) := by omega
          go_wp2_with fail
          go_ret
          exact ⟨rfl, hb⟩
        · have hqI : ¬ (0 : Int) < (l.length : Int) := by omega
          go_wp2_with fail
          go_ret
          exact ⟨rfl, hb⟩
    | some n =>
      have ef : fndV h l = .tuple #[.int .i64 (n : Int), .bool true] := by unfold fndV; rw [hf]; rfl
      rw [ef] at HF1 HF2
      obtain ⟨hnl, hnb⟩ := fnd_before hf
      have HNB := Lib.hid hnb
      clear ef hf hnb
      go_enter Tryd.func5, Tryd.ntmps5
      go_upto_region 7 with (first
        | (refine wpList_load_row rfl 24 _ rfl w0.heap.size rfl 24 (hc h) (0, 0) _ RH.out Tryd.underlying24 rfl (by kernel_rfl) ?_)
        | (go_at_call 26; refine (HF1.out _ HS.out).mono ?_; rintro e w1 ⟨rfl, hw1⟩; refine Hid.out ?_))
      have HS1 := Lib.hid (FdS.below hw1 HS.out)
      have RH1 := Lib.hid HS1.out.2.1
      clear hw1 HS RH HF1
      refine Lib.hid ?_
      go_upto_region 7 with (first
        | (refine wpList_load_row rfl 24 _ rfl w0.heap.size rfl 24 (hc h) (0, 0) _ RH1.out Tryd.underlying24 rfl (by kernel_rfl) ?_)
        | (go_at_call 27; refine (HF2.out _ HS1.out).mono ?_; rintro e w2 ⟨rfl, hw2⟩; refine Hid.out ?_))
      have HS2 := Lib.hid (FdS.below hw2 HS1.out)
      clear hw2 HS1 RH1 HF2
      refine Lib.hid ?_
      go_upto_region 7 with (go_at_call 10; refine (HA.out _ HS2.out).mono ?_; rintro e w3 ⟨rfl, hw3⟩; refine Hid.out ?_)
      have HS3 := Lib.hid (FdS.below hw3 HS2.out)
      clear hw3 HS2 HA
      refine Lib.hid ?_
      go_wp2_with fail
      go_loopg [9] n (fun k i wr => ∃ r : Nat, r + k = n ∧ i = .int .i64 r ∧ FdS w0 (.slice p l.length cap) l h wr)
      case atStart => exact ⟨0, by omega, rfl, HS3.out⟩
      case round =>
        obtain ⟨r, hr, rfl, hs⟩ := hrel
        have HS := Lib.hid hs
        clear hs HS3
        have hrl : (r : Int) < (l.length : Int) := by omega
        by_cases hlt : r < n
        · have hltI : (r : Int) < (n : Int) := by omega
          obtain ⟨x, hx⟩ := lt_some (show r < l.length by omega)
          obtain ⟨b, o, rfl, _⟩ := HS.out.1.at hx
          have HX := Lib.hid hx
          have HC := Lib.hid (fun W => rhas_any x.u.m h (HW.out.at hx).m HH.out W)
          rw [HNB.out r x hlt hx] at HC
          clear hx
          go_upto_region 10 with fail
          refine wp_region_held_drew (S := FdS w0 (.slice (some ⟨b, o, none⟩) l.length cap) l h) (by kernel_rfl) (FdS.below (Below.refl _ _).drew HS.out) (fun hS => ?_)
          clear HS
          generalize wr.drew = W at *
          refine seqRead 0 (v := _) rfl (by kernel_rfl) (by kernel_rfl) (by kernel_rfl) (fun _ _ _ h => h) rfl (fun w hSw => by go_simp <;> with_reducible rfl) hS ?_
          try simp only [Act.put, List.setIfInBounds_toArray, List.set_cons_zero, List.set_cons_succ]
          refine seqRead 1 (v := _) rfl (by kernel_rfl) (by kernel_rfl) (by kernel_rfl) (fun _ _ _ h => h) rfl (fun w hSw => by go_simp <;> with_reducible rfl) hS ?_
          try simp only [Act.put, List.setIfInBounds_toArray, List.set_cons_zero, List.set_cons_succ]
          refine seqRead 2 (v := _) rfl (by kernel_rfl) (by kernel_rfl) (by kernel_rfl) (fun _ _ _ h => h) rfl (fun w hSw => by go_simp <;> with_reducible rfl) hS ?_
          try simp only [Act.put, List.setIfInBounds_toArray, List.set_cons_zero, List.set_cons_succ]
          refine seqRead 3 (v := _) rfl (by kernel_rfl) (by kernel_rfl) (by kernel_rfl) (fun _ _ _ h => h) rfl (fun w hSw => by go_simp <;> with_reducible rfl) hS ?_
          try simp only [Act.put, List.setIfInBounds_toArray, List.set_cons_zero, List.set_cons_succ]
          refine seqRead 4 (v := _) rfl (by kernel_rfl) (by kernel_rfl) (by kernel_rfl) (fun _ _ _ h => h) rfl (fun w hSw => execRow rfl b (o + r * 32) rfl (cl x.u.m) _ (cellsR_mid (hSw.1.at' HX.out)).m Tryd.underlying26 rfl infoCube) hS ?_
          try simp only [Act.put, List.setIfInBounds_toArray, List.set_cons_zero, List.set_cons_succ]
          refine seqRead 5 (v := _) rfl (by kernel_rfl) (by kernel_rfl) (by kernel_rfl) (fun _ _ _ h => h) rfl (fun w hSw => execRow0 rfl _ rfl hSw.2.1 Tryd.underlying24 rfl (by kernel_rfl)) hS ?_
          try simp only [Act.put, List.setIfInBounds_toArray, List.set_cons_zero, List.set_cons_succ]
          refine seqCall 6 rfl (by kernel_rfl) rfl (fun K hK => ?_)
          go_simp
          refine (HC.out _).mono ?_
          rintro e w1 ⟨rfl, hw1⟩
          refine hK.out _ _ (FdS.below hw1 hS) (fun hS => ?_)
          clear hK K hw1
          try simp only [Act.put, List.setIfInBounds_toArray, List.set_cons_zero, List.set_cons_succ]
          refine seqDone (by kernel_rfl) ?_
          have HS1 := Lib.hid hS
          clear hS HC
          go_wp2_with fail
          go_roundg (n - (r + 1))
          case measure => omega
          case rel => exact ⟨r + 1, by omega, by go_num, HS1.out⟩
        · have hltI : ¬ (r : Int) < (n : Int) := by omega
          go_wp2_with fail
          go_ret
          exact ⟨rfl, HS.out.2.2⟩
end Go.Proofs.YthalpnmejompdaaDoor
