/-
  The walks of the conditions that equalIn and keyIn give, and of all.
-/
import Derived.Test.YthnfaccenlkedaaDoorUndPlace
import Derived.Test.YthnfaccenlkedaaDoorPackRuleB
import Derived.Test.YthnfaccenlkedaaDoorRuleRStM
import Derived.Test.YthnfaccenlkedaaDoorPackAct
namespace Go.Proofs.YthnfaccenlkedaaDoor
open Go.RowKit

/-- s[c:d] -/
theorem execMid {a : Act} {oi : Oper} {w : World} {x y z : Operand} (ho : oi.op = .slice 22 x (some y) (some z) none) (p : Option Addr) (len cap c d : Nat) (hx : a.eval x = .slice p len cap) (hy : a.eval y = .int .i64 (c : Int)) (hz : a.eval z = .int .i64 (d : Int))
    (hc : c ≤ d) (hd : d ≤ cap) : (execOp a.eval oi).run Tryd.prog w = .ok (.value (fromV 32 p d cap c)) w := by
  unfold execOp
  simp only [ho, hx, Option.map_some, Option.map_none, hy, hz, Sem.run_bind]
  rw [run_sliceAt_slice (h := elemR), run_slice_lh (ht := elemR) (h0 := by omega) (h1 := by omega) (h2 := by omega), sizeElR]
  simp [Result.andThen, sliced, fromV]
theorem KLies.mid {α : Type} {K : Kd α} {W : World} {l : List α} {p : Option Addr} {cap c : Nat} {x : α} (h : KLies K (.slice p l.length cap) l W) (hx : l[c]? = some x) : KLies K (fromV K.n p (c + 1) cap c) [x] W := by
  have hlt := (List.getElem?_eq_some_iff.1 hx).1
  have h1 := h.from (c := c) (by omega)
  have e : fromV K.n p l.length cap c = .slice (if cap = c then p else p.map (·.add (c * K.n))) (l.drop c).length (cap - c) := by unfold fromV; rw [List.length_drop]
  rw [e] at h1
  have h2 := h1.upto (c := 1) (by rw [List.length_drop]; omega)
  have e2 : (l.drop c).take 1 = [x] := by rw [List.drop_eq_getElem_cons hlt, (List.getElem?_eq_some_iff.1 hx).2]; rfl
  rw [e2] at h2
  unfold fromV
  rw [show c + 1 - c = 1 by omega]
  exact h2
/-- a table in its box, with the rules' actions; a rule with its own -/
def EqS (B0 : Nat) (v : Value) (l : List Rm) (wb : Nat) (r : Rm) (W : World) : Prop := SbS B0 v l wb r W ∧ RLies v l W ∧ InA r W
section
variable {B0 : Nat} {v : Value} {l : List Rm} {wb c cap : Nat} {r x : Rm} {p : Option Addr} {W W' : World}
theorem EqS.below (hb : Below W.heap.size W W') (h : EqS B0 v l wb r W) : EqS B0 v l wb r W' := ⟨h.1.below hb, h.2.1.below hb, h.2.2.below hb⟩
theorem EqS.mid (h : EqS B0 (.slice p l.length cap) l wb r W) (hx : l[c]? = some x) (_ : c + 1 ≤ cap) : RLies (fromV 32 p (c + 1) cap c) [x] W :=
  ⟨h.2.1.1.mid hx, fun z hz => by
    simp only [List.mem_cons, List.not_mem_nil, or_false] at hz
    subst hz
    exact h.2.1.acts hx⟩
end
/-- is a rule just so in a list of rules in memory? -/
def eqB (l : List Rm) (r : Rm) : Bool := inL r.u (l.map (·.u))
section
variable {l : List Rm} {r x : Rm} {c : Nat}
theorem rEq_key {a b : Ru} (h : rEq a b = true) : keyB b a = true := by
  unfold rEq at h
  rw [Bool.and_eq_true] at h
  rw [keyB_symm]; exact h.1
theorem eqB_no (h : plB l r = false) : eqB l r = false := by
  unfold eqB inL
  rw [List.any_eq_false]
  intro u hu hq
  obtain ⟨y, hy, rfl⟩ := List.mem_map.1 hu
  unfold plB at h
  rw [List.any_eq_false] at h
  exact h y hy (rEq_key hq)
theorem eqB_at (hs : Srt rOrd (l.map (·.u))) (hx : l[c]? = some x) (hk : keyB x.u r.u = true) : eqB l r = rEq x.u r.u := by
  unfold eqB inL
  cases h : rEq x.u r.u
  · rw [List.any_eq_false]
    intro u hu hq
    obtain ⟨y, hy, rfl⟩ := List.mem_map.1 hu
    obtain ⟨j, hj, rfl⟩ := List.mem_iff_getElem.1 hy
    have hyj := List.getElem?_eq_getElem hj
    have k1 := (key_iff _ _).1 (rEq_key hq)
    have k2 := (key_iff _ _).1 hk
    have k3 := rOrd_ordd.zero_trans k2 (rOrd_ordd.zero_symm k1)
    rcases Nat.lt_trichotomy j c with hlt | rfl | hgt
    · have := srt_at hs hlt hyj hx
      have := rOrd_ordd.zero_symm k3
      omega
    · rw [hyj] at hx
      injection hx with hx
      rw [hx, rEq_symm, h] at hq
      cases hq
    · have := srt_at hs hgt hx hyj
      omega
  · exact List.any_eq_true.2 ⟨x.u, List.mem_map_of_mem (List.mem_of_getElem? hx), by rw [rEq_symm]; exact h⟩
end
set_option maxRecDepth 100000 in
set_option maxHeartbeats 2000000 in
theorem eq1_any (B0 : Nat) (v : Value) (l : List Rm) (hlen : l.length ≤ 1000000) (hs : Srt rOrd (l.map (·.u))) (r : Rm) (hr : WfR r.u) (w : World) (hB : Blk B0 #[v] 22 w) (hl : RLies v l w) (ha : InA r w) :
    Calls Tryd.prog 36 #[.agg (rca r), .pointer (some ⟨B0, 0, none⟩)] w fun e w' => e = .returned (.bool (eqB l r)) ∧ Below w.heap.size w w' := by
  obtain ⟨p, cap, rfl⟩ := hl.1.form
  have hcap := hl.1.capLe
  have HS := Lib.hid (show EqS B0 (.slice p l.length cap) l w.heap.size r (w.alloc (.cells (rca r) 51)) from ⟨⟨hB.below (below1 _ _), hl.1.below okR (below1 _ _), Blk.new _ _ _⟩, hl.below (below1 _ _), ha.below (below1 _ _)⟩)
  have HB0 := Lib.hid (below1 w (.cells (rca r) 51))
  have HSrt := Lib.hid hs
  have HWr1 := Lib.hid (show WfRL [r] from fun z hz => by
    simp only [List.mem_cons, List.not_mem_nil, or_false] at hz
    subst hz
    exact hr)
  clear hl hs hB ha hr
  go_enter Tryd.func36, Tryd.ntmps36
  go_upto_region 1 with fail
  generalize w.alloc (.cells (rca r) 51) = W at *
  have HP := Lib.hid (place_any _ l hlen HSrt.out r W HS.out.1.2.1)
  have RR := Lib.hid HS.out.1.2.2
  have hc0 := HS.out.1.cell
  go_upto_region 2 with (first
    | (refine wpList_load_row rfl 51 _ rfl w.heap.size rfl 51 (rca r) (0, 0) _ RR.out Tryd.underlying51 rfl infoR ?_)
    | (go_at_call 37; refine HP.out.mono ?_; rintro e w2 ⟨c, rfl, hc1, hcn, hw2⟩; refine Hid.out ?_))
  have HB1 := Lib.hid (HB0.out.trans (hw2.mono HB0.out.size))
  have HS1 := Lib.hid (EqS.below hw2 HS.out)
  have HC1 := Lib.hid hc1
  clear hw2 HP RR HS HB0 hc0 hc1
  refine Lib.hid ?_
  cases hpl : plB l r
  · have HN := Lib.hid (eqB_no hpl)
    clear hpl HC1
    go_upto_region 2 with fail
    refine wp_region_held_drew (S := EqS B0 (.slice p l.length cap) l w.heap.size r) (by kernel_rfl) (EqS.below (Below.refl _ _).drew HS1.out) (fun hS => ?_)
    have HB := Lib.hid HB1.out.drew
    clear HS1
    generalize w2.drew = W2 at *
    refine seqRead 0 (v := _) rfl (by kernel_rfl) (by kernel_rfl) (by kernel_rfl) (fun _ _ _ h => h) rfl (fun w hSw => by go_simp <;> with_reducible rfl) hS ?_
    try simp only [Act.put, List.setIfInBounds_toArray, List.set_cons_zero, List.set_cons_succ]
    refine seqRead 1 (v := _) rfl (by kernel_rfl) (by kernel_rfl) (by kernel_rfl) (fun _ _ _ h => h) rfl (fun w hSw => by go_simp <;> with_reducible rfl) hS ?_
    try simp only [Act.put, List.setIfInBounds_toArray, List.set_cons_zero, List.set_cons_succ]
    refine seqSkip 2 rfl (by kernel_rfl) (by kernel_rfl) (by kernel_rfl) (fun _ _ _ h => h) rfl hS ?_
    try simp only [Act.put, List.setIfInBounds_toArray, List.set_cons_zero, List.set_cons_succ]
    refine seqSkip 3 rfl (by kernel_rfl) (by kernel_rfl) (by kernel_rfl) (fun _ _ _ h => h) rfl hS ?_
    try simp only [Act.put, List.setIfInBounds_toArray, List.set_cons_zero, List.set_cons_succ]
    refine seqSkip 4 rfl (by kernel_rfl) (by kernel_rfl) (by kernel_rfl) (fun _ _ _ h => h) rfl hS ?_
    try simp only [Act.put, List.setIfInBounds_toArray, List.set_cons_zero, List.set_cons_succ]
    refine seqSkip 5 rfl (by kernel_rfl) (by kernel_rfl) (by kernel_rfl) (fun _ _ _ h => h) rfl hS ?_
    try simp only [Act.put, List.setIfInBounds_toArray, List.set_cons_zero, List.set_cons_succ]
    refine seqSkip 6 rfl (by kernel_rfl) (by kernel_rfl) (by kernel_rfl) (fun _ _ _ h => h) rfl hS ?_
    try simp only [Act.put, List.setIfInBounds_toArray, List.set_cons_zero, List.set_cons_succ]
    refine seqSkip 7 rfl (by kernel_rfl) (by kernel_rfl) (by kernel_rfl) (fun _ _ _ h => h) rfl hS ?_
    try simp only [Act.put, List.setIfInBounds_toArray, List.set_cons_zero, List.set_cons_succ]
    refine seqSkip 8 rfl (by kernel_rfl) (by kernel_rfl) (by kernel_rfl) (fun _ _ _ h => h) rfl hS ?_
    try simp only [Act.put, List.setIfInBounds_toArray, List.set_cons_zero, List.set_cons_succ]
    refine seqSkip 9 rfl (by kernel_rfl) (by kernel_rfl) (by kernel_rfl) (fun _ _ _ h => h) rfl hS ?_
    try simp only [Act.put, List.setIfInBounds_toArray, List.set_cons_zero, List.set_cons_succ]
    refine seqRead 10 (v := _) rfl (by kernel_rfl) (by kernel_rfl) (by kernel_rfl) (fun _ _ _ h => h) rfl (fun w hSw => by go_simp <;> with_reducible rfl) hS ?_
    try simp only [Act.put, List.setIfInBounds_toArray, List.set_cons_zero, List.set_cons_succ]
    refine seqRead 11 (v := _) rfl (by kernel_rfl) (by kernel_rfl) (by kernel_rfl) (fun _ _ _ h => h) rfl (fun w hSw => by go_simp <;> with_reducible rfl) hS ?_
    try simp only [Act.put, List.setIfInBounds_toArray, List.set_cons_zero, List.set_cons_succ]
    refine seqDone (by kernel_rfl) ?_
    clear hS
    go_wp2_with fail
    go_ret
    exact ⟨ret_bool HN.out.symm, HB.out⟩
  · obtain ⟨x, hx, hk⟩ := HC1.out hpl
    have HX := Lib.hid hx
    have HE := Lib.hid (eqB_at HSrt.out hx hk)
    have hlt : c < l.length := (List.getElem?_eq_some_iff.1 hx).1
    have HCc := Lib.hid (show c + 1 ≤ cap by omega)
    have HW1 := Lib.hid (show IntKind.i64.wrap ((c : Int) + 1) = ((c + 1 : Nat) : Int) by rw [IntWalk.i64_in _ (by omega)]; rfl)
    have hcI : (c : Int) < (l.length : Int) := by omega
    clear hpl HC1 hx hk
    go_upto_region 2 with fail
    refine wp_region_held_drew (S := EqS B0 (.slice p l.length cap) l w.heap.size r) (by kernel_rfl) (EqS.below (Below.refl _ _).drew HS1.out) (fun hS => ?_)
    have HB := Lib.hid HB1.out.drew
    clear HS1
    generalize w2.drew = W2 at *
    refine seqRead 0 (v := _) rfl (by kernel_rfl) (by kernel_rfl) (by kernel_rfl) (fun _ _ _ h => h) rfl (fun w hSw => by go_simp <;> with_reducible rfl) hS ?_
    try simp only [Act.put, List.setIfInBounds_toArray, List.set_cons_zero, List.set_cons_succ]
    refine seqRead 1 (v := _) rfl (by kernel_rfl) (by kernel_rfl) (by kernel_rfl) (fun _ _ _ h => h) rfl (fun w hSw => by go_simp <;> with_reducible rfl) hS ?_
    try simp only [Act.put, List.setIfInBounds_toArray, List.set_cons_zero, List.set_cons_succ]
    refine seqRead 2 (v := _) rfl (by kernel_rfl) (by kernel_rfl) (by kernel_rfl) (fun _ _ _ h => h) rfl (fun w hSw => by have hc := hSw.1.cell; go_simp <;> with_reducible rfl) hS ?_
    try simp only [Act.put, List.setIfInBounds_toArray, List.set_cons_zero, List.set_cons_succ]
    refine seqRead 3 (v := _) rfl (by kernel_rfl) (by kernel_rfl) (by kernel_rfl) (fun _ _ _ h => h) rfl (fun w hSw => by go_simp <;> with_reducible rfl) hS ?_
    try simp only [Act.put, List.setIfInBounds_toArray, List.set_cons_zero, List.set_cons_succ]
    refine seqRead 4 (v := _) rfl (by kernel_rfl) (by kernel_rfl) (by kernel_rfl) (fun _ _ _ h => h) rfl (fun w hSw => by go_simp <;> with_reducible rfl) hS ?_
    try simp only [Act.put, List.setIfInBounds_toArray, List.set_cons_zero, List.set_cons_succ]
    refine seqRead 5 (v := _) rfl (by kernel_rfl) (by kernel_rfl) (by kernel_rfl) (fun _ _ _ h => h) rfl (fun w hSw => by go_simp <;> with_reducible rfl) hS ?_
    try simp only [Act.put, List.setIfInBounds_toArray, List.set_cons_zero, List.set_cons_succ]
    refine seqRead 6 (v := _) rfl (by kernel_rfl) (by kernel_rfl) (by kernel_rfl) (fun _ _ _ h => h) rfl (fun w hSw => execMid rfl p l.length cap c (c + 1) rfl rfl (by show Value.int .i64 (IntKind.i64.wrap ((c : Int) + 1)) = _; rw [HW1.out]) (by omega) HCc.out) hS ?_
    try simp only [Act.put, List.setIfInBounds_toArray, List.set_cons_zero, List.set_cons_succ]
    refine seqRead 7 (v := _) rfl (by kernel_rfl) (by kernel_rfl) (by kernel_rfl) (fun _ _ _ h => h) rfl (fun w hSw => execRow0 rfl _ rfl hSw.1.2.2 Tryd.underlying51 rfl infoR) hS ?_
    try simp only [Act.put, List.setIfInBounds_toArray, List.set_cons_zero, List.set_cons_succ]
    refine seqCall 8 rfl (by kernel_rfl) rfl (fun K hK => ?_)
    refine kbuildOneWp KR okR #[Value.int IntKind.u64 0, Value.int IntKind.u64 0, Value.int IntKind.u64 0, Value.int IntKind.u64 0, Value.int IntKind.u64 0, Value.int IntKind.u64 0, Value.int IntKind.u64 0, Value.int IntKind.u64 0, Value.int IntKind.u64 0, Value.int IntKind.u64 0, Value.int IntKind.u64 0, Value.int IntKind.u64 0, Value.int IntKind.u64 0, Value.int IntKind.u64 0, Value.int IntKind.u64 0, Value.int IntKind.u64 0, Value.int IntKind.u64 0, Value.int IntKind.u64 0, Value.int IntKind.u64 0, Value.int IntKind.u64 0, Value.int IntKind.u64 0, Value.int IntKind.u64 0, Value.int IntKind.u64 0, Value.int IntKind.u64 0, Value.int IntKind.i64 0, Value.slice none 0 0, Value.int IntKind.i64 0, Value.int IntKind.i64 0, Value.int IntKind.i64 0, Value.int IntKind.i64 0, Value.int IntKind.i64 0, Value.int IntKind.i64 0] zeroR (.tmp 19) rfl (rca r) rfl (by decide) (fillOne r) ?_
    have hSn := EqS.below (below1 W2 (.cells (rca r) KR.T)) hS
    have HB2 := Lib.hid (HB.out.trans ((below1 W2 (.cells (rca r) KR.T)).mono HB.out.size))
    have HK2 := Lib.hid (Blk.klies (K := KR) (l := [r]) (Blk.new W2 (rca r) KR.T) okR rfl)
    refine hK.out _ _ hSn (fun hS => ?_)
    clear hK K hSn
    try simp only [Act.put, List.setIfInBounds_toArray, List.set_cons_zero, List.set_cons_succ]
    refine seqCall 9 rfl (by kernel_rfl) rfl (fun K hK => ?_)
    go_simp
    refine (same_rules _ _ [x] [r] (by simp) (HWr1.out) _ (hS.mid HX.out HCc.out) ⟨HK2.out, fun z hz => (by
      simp only [List.mem_cons, List.not_mem_nil, or_false] at hz
      subst hz
      exact hS.2.2)⟩).mono ?_
    rintro e w3 ⟨rfl, hw3⟩
    have HB3 := Lib.hid (HB2.out.trans (hw3.mono HB2.out.size))
    refine hK.out _ _ (EqS.below hw3 hS) (fun hS => ?_)
    clear hK K hw3
    try simp only [Act.put, List.setIfInBounds_toArray, List.set_cons_zero, List.set_cons_succ]
    refine seqRead 10 (v := _) rfl (by kernel_rfl) (by kernel_rfl) (by kernel_rfl) (fun _ _ _ h => h) rfl (fun w hSw => by go_simp <;> with_reducible rfl) hS ?_
    try simp only [Act.put, List.setIfInBounds_toArray, List.set_cons_zero, List.set_cons_succ]
    refine seqRead 11 (v := _) rfl (by kernel_rfl) (by kernel_rfl) (by kernel_rfl) (fun _ _ _ h => h) rfl (fun w hSw => by go_simp <;> with_reducible rfl) hS ?_
    try simp only [Act.put, List.setIfInBounds_toArray, List.set_cons_zero, List.set_cons_succ]
    refine seqDone (by kernel_rfl) ?_
    clear hS
    go_wp2_with fail
    go_ret
    refine ⟨ret_bool ?_, HB3.out⟩
    rw [HE.out]
    show (rEq x.u r.u && true) = rEq x.u r.u
    rw [Bool.and_true]
set_option maxRecDepth 100000 in
set_option maxHeartbeats 1000000 in
theorem key1_any (B0 : Nat) (v : Value) (l : List Rm) (hlen : l.length ≤ 1000000) (hs : Srt rOrd (l.map (·.u))) (r : Rm) (w : World) (hB : Blk B0 #[v] 22 w) (hl : KLies KR v l w) :
    Calls Tryd.prog 71 #[.agg (rca r), .pointer (some ⟨B0, 0, none⟩)] w fun e w' => e = .returned (.bool (plB l r)) ∧ Below w.heap.size w w' := by
  obtain ⟨p, cap, rfl⟩ := hl.form
  have HS := Lib.hid (show SbS B0 (.slice p l.length cap) l w.heap.size r (w.alloc (.cells (rca r) 51)) from ⟨hB.below (below1 _ _), hl.below okR (below1 _ _), Blk.new _ _ _⟩)
  have HB0 := Lib.hid (below1 w (.cells (rca r) 51))
  have HSrt := Lib.hid hs
  clear hl hs hB
  go_enter Tryd.func71, Tryd.ntmps71
  go_upto_region 1 with fail
  generalize w.alloc (.cells (rca r) 51) = W at *
  have HP := Lib.hid (place_any _ l hlen HSrt.out r W HS.out.2.1)
  have RR := Lib.hid HS.out.2.2
  have hc0 := HS.out.cell
  go_wp2_with (first
    | (refine wpList_load_row rfl 51 _ rfl w.heap.size rfl 51 (rca r) (0, 0) _ RR.out Tryd.underlying51 rfl infoR ?_)
    | (go_at_call 37; refine HP.out.mono ?_; rintro e w2 ⟨c, rfl, hc1, hcn, hw2⟩))
  go_ret
  exact ⟨rfl, HB0.out.trans (hw2.mono HB0.out.size)⟩
end Go.Proofs.YthnfaccenlkedaaDoor
