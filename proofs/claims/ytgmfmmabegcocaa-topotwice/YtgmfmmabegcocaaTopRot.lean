/-
  The reference's Other.
-/
import Derived.Test.YtgmfmmabegcocaaTopRef
namespace Go.Proofs.Ytgmfmmabegcocaa
set_option maxRecDepth 20000
open Go.RowKit

/-- what its loop holds -/
structure RoS (w0 : World) (sc : Array Value) (x : En) (W : World) : Prop where
  s : Blk w0.heap.size sc 24 W
  e : Blk (w0.heap.size + 1) (eca x) 26 W
  z : Blk (w0.heap.size + 1 + 1) #[.int .i64 0, .int .i64 0] 26 W
  kept : Below w0.heap.size w0 W
theorem RoS.below {w0 W W' : World} {sc : Array Value} {x : En} (h : RoS w0 sc x W) (hb : Below W.heap.size W W') : RoS w0 sc x W' := ⟨h.s.below hb, h.e.below hb, h.z.below hb, h.kept.trans (hb.mono h.kept.size)⟩
section
variable {U P R : Int} {L : List Ln} {r : Nat} {x : En} {y : Ln}
theorem pairs_split (h : L[r]? = some y) : pairsL L = pairsL (L.take r) ++ ((y.1, y.2) :: (y.2, y.1) :: pairsL (L.drop (r + 1))) := by
  obtain ⟨hr, e⟩ := List.getElem?_eq_some_iff.1 h
  have h1 : L = L.take r ++ (y :: L.drop (r + 1)) := by
    rw [← e, ← List.drop_eq_getElem_cons hr, List.take_append_drop]
  conv => lhs; rw [h1]
  rw [pairsL_append]
  rfl
theorem look_first (hf : fault U P R L = 0) (h : L[r]? = some y) (hx : x ∉ endsL (L.take r)) (h1 : y.1 = x) : leadV (mapL U P R L) x = y.2 ∧ leadB (mapL U P R L) x = true := by
  refine leadV_some ?_
  unfold mapL
  rw [if_pos hf, pairs_split h, lookup_app (by rw [pairsL_keys]; exact hx), h1, lookup_hit]
theorem look_second (hf : fault U P R L = 0) (h : L[r]? = some y) (hx : x ∉ endsL (L.take r)) (h1 : y.1 ≠ x) (h2 : y.2 = x) : leadV (mapL U P R L) x = y.1 ∧ leadB (mapL U P R L) x = true := by
  refine leadV_some ?_
  unfold mapL
  rw [if_pos hf, pairs_split h, lookup_app (by rw [pairsL_keys]; exact hx), lookup_miss _ h1, h2, lookup_hit]
theorem look_nothing (h : fault U P R L ≠ 0 ∨ x ∉ endsL L) : leadV (mapL U P R L) x = (0, 0) ∧ leadB (mapL U P R L) x = false := by
  have : (mapL U P R L).lookup x = none := by
    unfold mapL
    split
    · rename_i hf
      exact lookup_none (by rw [pairsL_keys]; exact h.resolve_left (fun hn => hn hf))
    · rfl
  simp [leadV, leadB, this]
theorem not_next (h : L[r]? = some y) (hx : x ∉ endsL (L.take r)) (h1 : y.1 ≠ x) (h2 : y.2 ≠ x) : x ∉ endsL (L.take (r + 1)) := by
  rw [endsL_take h]
  intro hm
  rcases List.mem_append.1 hm with hm | hm
  · exact hx hm
  · simp only [List.mem_cons, List.not_mem_nil, or_false] at hm
    rcases hm with hm | hm
    · exact h1 hm.symm
    · exact h2 hm.symm
end
set_option maxRecDepth 100000 in
set_option maxHeartbeats 8000000 in
theorem rother_any (U P R : Int) (q : Option Addr) (n c : Nat) (L : List Ln) (hlen : L.length ≤ 1000000) (x : En) (w : World) (hl : KLies KN (.slice q n c) L w) :
    Calls Try.prog 8 #[.agg (sca U P R q n c), eV x] w fun e w' => e = .returned (.tuple #[eV (leadV (mapL U P R L) x), .bool (leadB (mapL U P R L) x)]) ∧ Below w.heap.size w w' := by
  obtain ⟨q', c', e'⟩ := hl.form
  injection e' with e1 e2 e3
  subst e2
  clear e1 e3
  obtain ⟨n, hn⟩ : ∃ n, n = L.length := ⟨_, rfl⟩
  rw [← hn] at hl hlen ⊢
  have HN := Lib.hid hn
  have HLE := Lib.hid hlen
  clear hn hlen
  have hb1 := below1 w (.cells (sca U P R q n c) 24)
  have hb2 := below1 (w.alloc (.cells (sca U P R q n c) 24)) (.cells (eca x) 26)
  have hb3 := below1 ((w.alloc (.cells (sca U P R q n c) 24)).alloc (.cells (eca x) 26)) (.cells #[.int .i64 0, .int .i64 0] 26)
  have HS := Lib.hid (show RoS w (sca U P R q n c) x _ from ⟨((Blk.new w (sca U P R q n c) 24).below hb2).below hb3, (Blk.new2 w (.cells (sca U P R q n c) 24) (eca x) 26).below hb3,
    Blk.new3 w (.cells (sca U P R q n c) 24) (.cells (eca x) 26) #[.int .i64 0, .int .i64 0] 26, hb1.trans ((hb2.trans (hb3.mono hb2.size)).mono hb1.size)⟩)
  have HL := Lib.hid hl
  obtain ⟨f, hf⟩ : ∃ f, f = fault U P R L := ⟨_, rfl⟩
  have HF := Lib.hid hf
  obtain ⟨V, hV⟩ : ∃ V, V = leadV (mapL U P R L) x := ⟨_, rfl⟩
  obtain ⟨Y, hY⟩ : ∃ Y, Y = leadB (mapL U P R L) x := ⟨_, rfl⟩
  have HV := Lib.hid (And.intro hV hY)
  rw [← hV, ← hY]
  clear hb1 hb2 hb3 hl hf hV hY
  go_enter Try.func8, Try.ntmps8
  go_upto_region 1 with fail
  generalize ((w.alloc (.cells (sca U P R q n c) 24)).alloc (.cells (eca x) 26)).alloc (.cells #[.int .i64 0, .int .i64 0] 26) = W0 at *
  go_wp2_with fail
  go_loopg [6] n (fun k s6 wr => ∃ r : Nat, r + k = n ∧ s6 = .int .i64 r ∧ x ∉ endsL (L.take r) ∧ RoS w (sca U P R q n c) x wr)
  case atStart => exact ⟨0, by omega, rfl, fun he => (by cases he), HS.out⟩
  case round =>
    clear HS
    obtain ⟨r, hr, rfl, hnx, hs⟩ := hrel
    have HS := Lib.hid hs
    have HNX := Lib.hid hnx
    clear hs hnx
    have k3 : wr.cell? ⟨w.heap.size, 3, none⟩ = some (.slice q n c) := (cell_of_row _ w.heap.size 3 _ _ _ HS.out.s).trans rfl
    by_cases hlt : r < n
    · have hltI : (r : Int) < (n : Int) := by omega
      have hdI : decide ((r : Int) < (n : Int)) = true := decide_eq_true hltI
      obtain ⟨y, hy⟩ := lt_some (l := L) (i := r) (by have := HN.out; omega)
      have HY := Lib.hid hy
      obtain ⟨bb, o, rfl, _⟩ := HL.out.at hy
      clear hy
      have HC := Lib.hid (rsetup_any U P R (some ⟨bb, o, none⟩) n c L (by have := HN.out; have := HLE.out; omega) wr (HL.out.below okN HS.out.kept))
      rw [← HF.out] at HC
      go_upto_if 16 with (first
        | (refine loadRowG rfl 24 _ rfl w.heap.size rfl 24 (sca U P R (some ⟨bb, o, none⟩) n c) (0, 0) HS.out.s Try.underlying24 rfl infoS4 ?_)
        | (go_at_call 10; refine HC.out.mono ?_; rintro e W1 ⟨rfl, hb⟩; have HS1 := Lib.hid (HS.out.below hb); clear hb))
      clear HC k3 HS
      by_cases hf0 : f = 0
      rotate_left
      · have HNO := Lib.hid (look_nothing (x := x) (.inl (by rw [← HF.out]; exact hf0)))
        go_wp2_with (refine wpList_store_row rfl 26 _ _ rfl (w.heap.size + 1 + 1) #[.int .i64 0, .int .i64 0] rfl rfl 26 _ HS1.out.z infoE rfl (eca_one (0, 0)) ?_)
        refine bodyPost_ret (v := .tuple #[eV (0, 0), .bool false]) ?_ rfl ⟨by rw [HV.out.1, HV.out.2, HNO.out.1, HNO.out.2], below_setRow HS1.out.kept (by omega) _⟩
        exact res_twoE Try.results8 (cs := eca (0, 0)) rfl rfl (HS1.out.z.rset _) rfl
      have HF0 := Lib.hid (show fault U P R L = 0 from HF.out ▸ hf0)
      go_upto_region 4 with fail
      clear hf0
      have hltN : r < n := hlt
      have heq : ∀ w, (Op.equalIn 10000 26 (.agg (ecl y.1).toArray) (.agg (eca x))).run Try.prog w = .ok (decide (y.1 = x)) w := fun w => eql_end y.1 x w
      have hgd := guardEnd
      have HS2 := Lib.hid (HS1.out.below (Below.refl _ _).drew)
      refine wp_region_held_drew (S := (fun W => RoS w (sca U P R (some ⟨bb, o, none⟩) n c) x W)) (by kernel_rfl) HS2.out (fun hS => ?_)
      clear HS1
      generalize W1.drew = V1 at *
      generalize hyb : decide (y.1 = x) = ya at *
      refine seqRead 0 (v := _) rfl (by kernel_rfl) (by kernel_rfl) (by kernel_rfl) (fun _ _ _ h => h) rfl (fun w hSw => by go_simp <;> with_reducible rfl) hS ?_
      try simp only [Act.put, List.setIfInBounds_toArray, List.set_cons_zero, List.set_cons_succ]
      refine seqRead 1 (v := _) rfl (by kernel_rfl) (by kernel_rfl) (by kernel_rfl) (fun _ _ _ h => h) rfl (fun w hSw => by have k3 := (cell_of_row w _ 3 _ _ _ hSw.s).trans rfl; go_simp <;> with_reducible rfl) hS ?_
      try simp only [Act.put, List.setIfInBounds_toArray, List.set_cons_zero, List.set_cons_succ]
      refine seqRead 2 (v := _) rfl (by kernel_rfl) (by kernel_rfl) (by kernel_rfl) (fun _ _ _ h => h) rfl (fun w hSw => by go_simp <;> with_reducible rfl) hS ?_
      try simp only [Act.put, List.setIfInBounds_toArray, List.set_cons_zero, List.set_cons_succ]
      refine seqRead 3 (v := _) rfl (by kernel_rfl) (by kernel_rfl) (by kernel_rfl) (fun _ _ _ h => h) rfl (fun w hSw => by go_simp <;> with_reducible rfl) hS ?_
      try simp only [Act.put, List.setIfInBounds_toArray, List.set_cons_zero, List.set_cons_succ]
      refine seqRead 4 (v := _) rfl (by kernel_rfl) (by kernel_rfl) (by kernel_rfl) (fun _ _ _ h => h) rfl (fun w hSw => by go_simp <;> with_reducible rfl) hS ?_
      try simp only [Act.put, List.setIfInBounds_toArray, List.set_cons_zero, List.set_cons_succ]
      refine seqRead 5 (v := _) rfl (by kernel_rfl) (by kernel_rfl) (by kernel_rfl) (fun _ _ _ h => h) rfl (fun w hSw => execRow rfl bb (o + r * 4) rfl (ecl y.1) _ (lnA ((HL.out.below okN hSw.kept).at' HY.out)) Try.underlying26 rfl infoE) hS ?_
      try simp only [Act.put, List.setIfInBounds_toArray, List.set_cons_zero, List.set_cons_succ]
      refine seqRead 6 (v := _) rfl (by kernel_rfl) (by kernel_rfl) (by kernel_rfl) (fun _ _ _ h => h) rfl (fun w hSw => execRow0 rfl _ rfl hSw.e Try.underlying26 rfl infoE) hS ?_
      try simp only [Act.put, List.setIfInBounds_toArray, List.set_cons_zero, List.set_cons_succ]
      refine seqRead 7 (v := _) rfl (by kernel_rfl) (by kernel_rfl) (by kernel_rfl) (fun _ _ _ h => h) rfl (fun w hSw => by go_simp <;> with_reducible rfl) hS ?_
      try simp only [Act.put, List.setIfInBounds_toArray, List.set_cons_zero, List.set_cons_succ]
      refine seqDone (by kernel_rfl) ?_
      clear hS heq hgd
      cases ya with
      | true =>
        have HYY := Lib.hid (look_first HF0.out HY.out HNX.out (of_decide_eq_true hyb))
        clear hyb
        have k3 : V1.cell? ⟨w.heap.size, 3, none⟩ = some (.slice (some ⟨bb, o, none⟩) n c) := (cell_of_row _ w.heap.size 3 _ _ _ HS2.out.s).trans rfl
        have HRB := Lib.hid (lnB ((HL.out.below okN HS2.out.kept).at' HY.out))
        have HZZ := Lib.hid HS2.out.z
        go_wp2_with (first
          | (refine wpList_load_mid rfl 26 _ rfl bb (o + r * 4 + 2) rfl (ecl y.2) _ HRB.out Try.underlying26 rfl infoE ?_)
          | (refine wpList_store_row rfl 26 _ _ rfl (w.heap.size + 1 + 1) (eca y.2) rfl rfl 26 _ HZZ.out infoE rfl (eca_one y.2) ?_))
        refine bodyPost_ret (v := .tuple #[eV y.2, .bool true]) ?_ rfl ⟨by rw [HV.out.1, HV.out.2, HYY.out.1, HYY.out.2], below_setRow HS2.out.kept (by omega) _⟩
        exact res_twoE Try.results8 (cs := eca y.2) rfl rfl (HZZ.out.rset _) rfl
      | false =>
      have HY1 := Lib.hid (of_decide_eq_false hyb)
      clear hyb
      go_upto_region 6 with fail
      have heq : ∀ w, (Op.equalIn 10000 26 (.agg (ecl y.2).toArray) (.agg (eca x))).run Try.prog w = .ok (decide (y.2 = x)) w := fun w => eql_end y.2 x w
      have hgd := guardEnd
      have HS3 := Lib.hid (HS2.out.below (Below.refl _ _).drew)
      refine wp_region_held_drew (S := (fun W => RoS w (sca U P R (some ⟨bb, o, none⟩) n c) x W)) (by kernel_rfl) HS3.out (fun hS => ?_)
      clear HS2
      generalize V1.drew = V2 at *
      generalize hyb : decide (y.2 = x) = yc at *
      refine seqRead 0 (v := _) rfl (by kernel_rfl) (by kernel_rfl) (by kernel_rfl) (fun _ _ _ h => h) rfl (fun w hSw => by go_simp <;> with_reducible rfl) hS ?_
      try simp only [Act.put, List.setIfInBounds_toArray, List.set_cons_zero, List.set_cons_succ]
      refine seqRead 1 (v := _) rfl (by kernel_rfl) (by kernel_rfl) (by kernel_rfl) (fun _ _ _ h => h) rfl (fun w hSw => by have k3 := (cell_of_row w _ 3 _ _ _ hSw.s).trans rfl; go_simp <;> with_reducible rfl) hS ?_
      try simp only [Act.put, List.setIfInBounds_toArray, List.set_cons_zero, List.set_cons_succ]
      refine seqRead 2 (v := _) rfl (by kernel_rfl) (by kernel_rfl) (by kernel_rfl) (fun _ _ _ h => h) rfl (fun w hSw => by go_simp <;> with_reducible rfl) hS ?_
      try simp only [Act.put, List.setIfInBounds_toArray, List.set_cons_zero, List.set_cons_succ]
      refine seqRead 3 (v := _) rfl (by kernel_rfl) (by kernel_rfl) (by kernel_rfl) (fun _ _ _ h => h) rfl (fun w hSw => by go_simp <;> with_reducible rfl) hS ?_
      try simp only [Act.put, List.setIfInBounds_toArray, List.set_cons_zero, List.set_cons_succ]
      refine seqRead 4 (v := _) rfl (by kernel_rfl) (by kernel_rfl) (by kernel_rfl) (fun _ _ _ h => h) rfl (fun w hSw => by go_simp <;> with_reducible rfl) hS ?_
      try simp only [Act.put, List.setIfInBounds_toArray, List.set_cons_zero, List.set_cons_succ]
      refine seqRead 5 (v := _) rfl (by kernel_rfl) (by kernel_rfl) (by kernel_rfl) (fun _ _ _ h => h) rfl (fun w hSw => execRow rfl bb (o + r * 4 + 2) rfl (ecl y.2) _ (lnB ((HL.out.below okN hSw.kept).at' HY.out)) Try.underlying26 rfl infoE) hS ?_
      try simp only [Act.put, List.setIfInBounds_toArray, List.set_cons_zero, List.set_cons_succ]
      refine seqRead 6 (v := _) rfl (by kernel_rfl) (by kernel_rfl) (by kernel_rfl) (fun _ _ _ h => h) rfl (fun w hSw => execRow0 rfl _ rfl hSw.e Try.underlying26 rfl infoE) hS ?_
      try simp only [Act.put, List.setIfInBounds_toArray, List.set_cons_zero, List.set_cons_succ]
      refine seqRead 7 (v := _) rfl (by kernel_rfl) (by kernel_rfl) (by kernel_rfl) (fun _ _ _ h => h) rfl (fun w hSw => by go_simp <;> with_reducible rfl) hS ?_
      try simp only [Act.put, List.setIfInBounds_toArray, List.set_cons_zero, List.set_cons_succ]
      refine seqDone (by kernel_rfl) ?_
      clear hS heq hgd
      cases yc with
      | true =>
        have HYY := Lib.hid (look_second HF0.out HY.out HNX.out HY1.out (of_decide_eq_true hyb))
        clear hyb
        have k3 : V2.cell? ⟨w.heap.size, 3, none⟩ = some (.slice (some ⟨bb, o, none⟩) n c) := (cell_of_row _ w.heap.size 3 _ _ _ HS3.out.s).trans rfl
        have HRB := Lib.hid (lnA ((HL.out.below okN HS3.out.kept).at' HY.out))
        have HZZ := Lib.hid HS3.out.z
        go_wp2_with (first
          | (refine wpList_load_mid rfl 26 _ rfl bb (o + r * 4) rfl (ecl y.1) _ HRB.out Try.underlying26 rfl infoE ?_)
          | (refine wpList_store_row rfl 26 _ _ rfl (w.heap.size + 1 + 1) (eca y.1) rfl rfl 26 _ HZZ.out infoE rfl (eca_one y.1) ?_))
        refine bodyPost_ret (v := .tuple #[eV y.1, .bool true]) ?_ rfl ⟨by rw [HV.out.1, HV.out.2, HYY.out.1, HYY.out.2], below_setRow HS3.out.kept (by omega) _⟩
        exact res_twoE Try.results8 (cs := eca y.1) rfl rfl (HZZ.out.rset _) rfl
      | false =>
      have HY2 := Lib.hid (of_decide_eq_false hyb)
      clear hyb hdI hltN
      have hr9 : r < 1000000 := by have := HLE.out; omega
      go_wp2_with fail
      go_roundg (n - (r + 1))
      case measure => omega
      case rel => exact ⟨r + 1, by omega, by go_num, not_next HY.out HNX.out HY1.out HY2.out, HS3.out⟩
    · have hltI : ¬ (r : Int) < (n : Int) := by omega
      have hr0 : L.take r = L := List.take_of_length_le (by have := HN.out; omega)
      rw [hr0] at HNX
      have HNO := Lib.hid (look_nothing (U := U) (P := P) (R := R) (.inr HNX.out))
      clear hr0
      go_wp2_with (refine wpList_store_row rfl 26 _ _ rfl (w.heap.size + 1 + 1) #[.int .i64 0, .int .i64 0] rfl rfl 26 _ HS.out.z infoE rfl (eca_one (0, 0)) ?_)
      refine bodyPost_ret (v := .tuple #[eV (0, 0), .bool false]) ?_ rfl ⟨by rw [HV.out.1, HV.out.2, HNO.out.1, HNO.out.2], below_setRow HS.out.kept (by omega) _⟩
      exact res_twoE Try.results8 (cs := eca (0, 0)) rfl rfl (HS.out.z.rset _) rfl
end Go.Proofs.Ytgmfmmabegcocaa
