/-
  The reference's Apply: an Add.
-/
import Derived.Test.YtomnpfbebimpkaaGreatDoorModRaR
import Derived.Test.YtomnpfbebimpkaaGreatDoorRuleRSt
namespace Go.Proofs.YtomnpfbebimpkaaGreatDoor
set_option maxRecDepth 20000
open Go.RowKit

/-- does one of the first elements meet a condition? -/
def anyT (q : Rm → Bool) (l : List Rm) (r : Nat) : Bool := (l.take r).any q
theorem anyT_succ {q : Rm → Bool} {l : List Rm} {r : Nat} {x : Rm} (hx : l[r]? = some x) : anyT q l (r + 1) = (anyT q l r || q x) := by
  unfold anyT
  rw [List.take_add_one, hx, List.any_append]
  simp
theorem anyT_all (q : Ru → Bool) (l : List Rm) : anyT (fun x => q x.u) l l.length = (l.map (·.u)).any q := by
  unfold anyT
  rw [List.take_length, List.any_map]
  rfl
def q1 (m : Mu) (x : Rm) : Bool := keyB x.u (newU m)
def q6 (m : Mu) (x : Rm) : Bool := !keyB x.u (newU m) && ovB x.u (newU m)
def q7 (m : Mu) (x : Rm) : Bool := keyB x.u (newU m) && (x.u.owner != m.owner)
theorem addE_any {l : List Rm} {m : Mu} {room : Int} (hk : m.kind = 1) (ht : tabU (l.map (·.u)) = true) (hs : sndM m = true) : applyE (l.map (·.u)) m room =
    (if anyT (q7 m) l l.length then 7 else if m.chk && anyT (q6 m) l l.length then 6 else if !anyT (q1 m) l l.length && decide (room ≤ (l.length : Int)) then 3 else 0) := by
  rw [addE hk ht hs, List.length_map, ← anyT_all, ← anyT_all, ← anyT_all]
  rfl
theorem anyT_mem {q : Rm → Bool} {l : List Rm} {r : Nat} {x : Rm} (hx : l[r]? = some x) (h : q x = true) : anyT q l l.length = true := by
  unfold anyT
  rw [List.take_length, List.any_eq_true]
  exact ⟨x, List.mem_of_getElem? hx, h⟩
theorem inNew {l : List Rm} {m : Mm} {W : World} (h : ∀ r ∈ l, InA r W) (hm : InM m W) : ∀ y ∈ l ++ [newR m], InA y W := fun y hy => by
  rcases List.mem_append.1 hy with h1 | h1
  · exact h y h1
  · simp only [List.mem_cons, List.not_mem_nil, or_false] at h1
    subst h1
    exact hm.new
theorem wfNewL {l : List Rm} {m : Mm} (h : WfRL l) (hm : WfM m.u) : WfRL (l ++ [newR m]) := fun y hy => by
  rcases List.mem_append.1 hy with h1 | h1
  · exact h y h1
  · simp only [List.mem_cons, List.not_mem_nil, or_false] at h1
    subst h1
    exact wf_new hm
set_option maxRecDepth 100000 in
set_option maxHeartbeats 8000000 in
theorem rapply_add (v : Value) (l : List Rm) (hlen : l.length ≤ 9000) (hwl : WfRL l) (m : Mm) (hw : WfM m.u) (hk : m.u.kind = 1) (hs : sndM m.u = true) (htab : tabU (l.map (·.u)) = true) (room : Int) (w : World) (hl : RLies v l w) (ha : InM m w) (ht : Tab w) (hz : 0 < w.heap.size) :
    Calls Tryz.prog 26 #[v, .agg (mca m), .int .i64 room] w (RaO w l m room) := by
  obtain ⟨p, cap, rfl⟩ := hl.1.form
  have HS := Lib.hid (show ApS w (.slice p l.length cap) l m (w.alloc (.cells (mca m) 40)) from ⟨hl.below (below1 _ _), ha.below (below1 _ _), Blk.new _ _ _, (Env.start ht hz).alloc _⟩)
  have HT := Lib.hid (rtable_b _ l (by omega) hwl _ HS.out.1)
  rw [tabB_tabU, htab] at HT
  have HMo := Lib.hid (fun (W : World) (hS : ApS w (.slice p l.length cap) l m W) => rmod_any m hw W hS.2.1)
  rw [hs] at HMo
  have HAE := Lib.hid (addE_any (room := room) hk htab hs)
  have HAL := Lib.hid (show applyE (l.map (·.u)) m.u room = 0 → applyV (l.map (·.u)) m.u room = tblOf (l.map (·.u) ++ [newU m.u]) from fun h => by rw [appV_ok h]; unfold applyL; rw [if_pos hk])
  have HWL := Lib.hid hwl
  have HW := Lib.hid hw
  have HWN := Lib.hid (wfNewL hwl hw)
  clear hl ha hwl hw ht hs htab
  go_enter Tryz.func26, Tryz.ntmps26
  go_wp2_with (go_at_call 22; refine HT.out.mono ?_; rintro e w1 ⟨rfl, hw1⟩; refine Hid.out ?_)
  have HS1 := Lib.hid (ApS.below hw1 HS.out)
  have RM := Lib.hid HS1.out.2.2.1
  have HMo1 := Lib.hid (HMo.out _ HS1.out)
  clear hw1 HS HT HMo
  refine Lib.hid ?_
  go_upto_region 3 with (first
    | (refine loadRowG rfl 40 _ rfl w.heap.size rfl 40 (mca m) (0, 0) RM.out Tryz.underlying40 rfl infoM ?_)
    | (go_at_call 25; refine HMo1.out.mono ?_; rintro e w2 ⟨rfl, hw2⟩))
  have HS2 := Lib.hid (ApS.below hw2 HS1.out)
  clear hw2 HS1 RM HMo1
  obtain ⟨k0, mb, k25, k26, k27, k28, k29, k30⟩ := HS2.out.2.2.1.cellsM
  have MB := Lib.hid mb
  clear mb
  go_upto_region 5 with (first
    | (refine wpList_load_mid rfl 37 _ rfl w.heap.size 1 rfl (cl m.u.m) _ MB.out Tryz.underlying37 rfl infoCube ?_)
    | (refine buildNew rfl _ _ _ _ _ _ rfl m rfl rfl rfl rfl rfl rfl ?_)
    | (refine wpList_store_row rfl 88 _ _ rfl w2.heap.size (rca (newR m)) rfl rfl 88 _ (heap_alloc_new _ _) (by kernel_rfl) rfl (rca_one _) ?_; rw [World.setRow_alloc_new]))
  have HSA := Lib.hid (show AddS w (.slice p l.length cap) l m w2.heap.size (w2.alloc (.cells (rca (newR m)) 88)) from
    ⟨HS2.out.1.below (below1 _ _), HS2.out.2.1.below (below1 _ _), HS2.out.2.2.1.below (below1 _ _), Blk.new _ _ _, HS2.out.2.2.2.alloc _⟩)
  clear HS2 MB k0 k25 k26 k27 k28 k29 k30
  generalize w2.alloc (.cells (rca (newR m)) 88) = W2 at *
  generalize w2.heap.size = Bn at *
  go_wp2_with fail
  go_loopg [9, 10, 11] l.length (fun k t9 t10 t11 wr => ∃ r : Nat, r + k = l.length ∧ t11 = .int .i64 r ∧ t9 = .bool (anyT (q1 m.u) l r) ∧ t10 = .bool (anyT (q6 m.u) l r) ∧ anyT (q7 m.u) l r = false ∧ AddS w (.slice p l.length cap) l m Bn wr)
  case atStart => exact ⟨0, by omega, rfl, rfl, rfl, rfl, HSA.out⟩
  case round =>
    obtain ⟨r, hr, rfl, rfl, rfl, h7, hs⟩ := hrel
    have HS := Lib.hid hs
    have H7 := Lib.hid h7
    clear hs h7 HSA
    by_cases hlt : r < l.length
    · have hltI : (r : Int) < (l.length : Int) := by omega
      obtain ⟨x, hx⟩ := lt_some hlt
      obtain ⟨b, o, rfl, _⟩ := HS.out.1.1.at hx
      have HX := Lib.hid hx
      have H1 := Lib.hid (anyT_succ (q := q1 m.u) hx)
      have H2 := Lib.hid (anyT_succ (q := q6 m.u) hx)
      have H3 := Lib.hid (anyT_succ (q := q7 m.u) hx)
      rw [H7.out, Bool.false_or] at H3
      have HWx := Lib.hid (HWL.out.at hx)
      have HKy := Lib.hid (fun W => rkey_any x (newR m) W)
      have HOv := Lib.hid (fun W => roverlap_any x (newR m) HWx.out.m HW.out.m W)
      rw [show (newR m).u = newU m.u from rfl] at HKy HOv
      unfold q1 at H1
      unfold q6 at H2
      unfold q7 at H3
      clear hx
      cases hky : keyB x.u (newU m.u)
      · rw [hky] at HKy H1 H2 H3
        clear hky
        rw [Bool.or_false] at H1
        cases hme : anyT (q6 m.u) l r
        · rw [show anyT (fun x => !keyB x.u (newU m.u) && ovB x.u (newU m.u)) l r = false from hme] at H2
          generalize ovB x.u (newU m.u) = yo at *
          go_upto_region 9 with fail
          refine wp_region_held_drew (S := AddS w (.slice (some ⟨b, o, none⟩) l.length cap) l m Bn) (by kernel_rfl) (AddS.below (Below.refl _ _).drew HS.out) (fun hS => ?_)
          clear HS
          generalize wr.drew = W at *
          refine seqRead 0 (v := _) rfl (by kernel_rfl) (by kernel_rfl) (by kernel_rfl) (fun _ _ _ h => h) rfl (fun w hSw => by go_simp <;> with_reducible rfl) hS ?_
          try simp only [Act.put, List.setIfInBounds_toArray, List.set_cons_zero, List.set_cons_succ]
          refine seqRead 1 (v := _) rfl (by kernel_rfl) (by kernel_rfl) (by kernel_rfl) (fun _ _ _ h => h) rfl (fun w hSw => by go_simp <;> with_reducible rfl) hS ?_
          try simp only [Act.put, List.setIfInBounds_toArray, List.set_cons_zero, List.set_cons_succ]
          refine seqRead 2 (v := _) rfl (by kernel_rfl) (by kernel_rfl) (by kernel_rfl) (fun _ _ _ h => h) rfl (fun w hSw => by go_simp <;> with_reducible rfl) hS ?_
          try simp only [Act.put, List.setIfInBounds_toArray, List.set_cons_zero, List.set_cons_succ]
          refine seqRead 3 (v := _) rfl (by kernel_rfl) (by kernel_rfl) (by kernel_rfl) (fun _ _ _ h => h) rfl (fun w hSw => execRow rfl b (o + r * 32) rfl (rcl x) _ (hSw.1.1.at' HX.out) Tryz.underlying88 rfl infoR) hS ?_
          try simp only [Act.put, List.setIfInBounds_toArray, List.set_cons_zero, List.set_cons_succ]
          refine seqRead 4 (v := _) rfl (by kernel_rfl) (by kernel_rfl) (by kernel_rfl) (fun _ _ _ h => h) rfl (fun w hSw => execRow0 rfl _ rfl hSw.2.2.2.1 Tryz.underlying88 rfl infoR) hS ?_
          try simp only [Act.put, List.setIfInBounds_toArray, List.set_cons_zero, List.set_cons_succ]
          refine seqCall 5 rfl (by kernel_rfl) rfl (fun K hK => ?_)
          go_simp
          refine (HKy.out _).mono ?_
          rintro e w3 ⟨rfl, hw3⟩
          refine hK.out _ _ (AddS.below hw3 hS) (fun hS => ?_)
          clear hK K hw3
          try simp only [Act.put, List.setIfInBounds_toArray, List.set_cons_zero, List.set_cons_succ]
          refine seqDone (by kernel_rfl) ?_
          have HS := Lib.hid hS
          clear hS
          go_upto_region 13 with fail
          refine wp_region_held_drew (S := AddS w (.slice (some ⟨b, o, none⟩) l.length cap) l m Bn) (by kernel_rfl) (AddS.below (Below.refl _ _).drew HS.out) (fun hS => ?_)
          clear HS
          generalize w3.drew = W5 at *
          refine seqRead 0 (v := _) rfl (by kernel_rfl) (by kernel_rfl) (by kernel_rfl) (fun _ _ _ h => h) rfl (fun w hSw => by go_simp <;> with_reducible rfl) hS ?_
          try simp only [Act.put, List.setIfInBounds_toArray, List.set_cons_zero, List.set_cons_succ]
          refine seqRead 1 (v := _) rfl (by kernel_rfl) (by kernel_rfl) (by kernel_rfl) (fun _ _ _ h => h) rfl (fun w hSw => by go_simp <;> with_reducible rfl) hS ?_
          try simp only [Act.put, List.setIfInBounds_toArray, List.set_cons_zero, List.set_cons_succ]
          refine seqRead 2 (v := _) rfl (by kernel_rfl) (by kernel_rfl) (by kernel_rfl) (fun _ _ _ h => h) rfl (fun w hSw => by go_simp <;> with_reducible rfl) hS ?_
          try simp only [Act.put, List.setIfInBounds_toArray, List.set_cons_zero, List.set_cons_succ]
          refine seqRead 3 (v := _) rfl (by kernel_rfl) (by kernel_rfl) (by kernel_rfl) (fun _ _ _ h => h) rfl (fun w hSw => by go_simp <;> with_reducible rfl) hS ?_
          try simp only [Act.put, List.setIfInBounds_toArray, List.set_cons_zero, List.set_cons_succ]
          refine seqRead 4 (v := _) rfl (by kernel_rfl) (by kernel_rfl) (by kernel_rfl) (fun _ _ _ h => h) rfl (fun w hSw => by go_simp <;> with_reducible rfl) hS ?_
          try simp only [Act.put, List.setIfInBounds_toArray, List.set_cons_zero, List.set_cons_succ]
          refine seqRead 5 (v := _) rfl (by kernel_rfl) (by kernel_rfl) (by kernel_rfl) (fun _ _ _ h => h) rfl (fun w hSw => execRow rfl b (o + r * 32) rfl (rcl x) _ (hSw.1.1.at' HX.out) Tryz.underlying88 rfl infoR) hS ?_
          try simp only [Act.put, List.setIfInBounds_toArray, List.set_cons_zero, List.set_cons_succ]
          refine seqRead 6 (v := _) rfl (by kernel_rfl) (by kernel_rfl) (by kernel_rfl) (fun _ _ _ h => h) rfl (fun w hSw => execRow0 rfl _ rfl hSw.2.2.2.1 Tryz.underlying88 rfl infoR) hS ?_
          try simp only [Act.put, List.setIfInBounds_toArray, List.set_cons_zero, List.set_cons_succ]
          refine seqCall 7 rfl (by kernel_rfl) rfl (fun K hK => ?_)
          go_simp
          refine (HOv.out _).mono ?_
          rintro e w3 ⟨rfl, hw3⟩
          refine hK.out _ _ (AddS.below hw3 hS) (fun hS => ?_)
          clear hK K hw3
          try simp only [Act.put, List.setIfInBounds_toArray, List.set_cons_zero, List.set_cons_succ]
          refine seqRead 8 (v := _) rfl (by kernel_rfl) (by kernel_rfl) (by kernel_rfl) (fun _ _ _ h => h) rfl (fun w hSw => by go_simp <;> with_reducible rfl) hS ?_
          try simp only [Act.put, List.setIfInBounds_toArray, List.set_cons_zero, List.set_cons_succ]
          refine seqRead 9 (v := _) rfl (by kernel_rfl) (by kernel_rfl) (by kernel_rfl) (fun _ _ _ h => h) rfl (fun w hSw => by go_simp <;> with_reducible rfl) hS ?_
          try simp only [Act.put, List.setIfInBounds_toArray, List.set_cons_zero, List.set_cons_succ]
          refine seqDone (by kernel_rfl) ?_
          have HS := Lib.hid hS
          clear hS
          go_wp2_with fail
          go_roundg (l.length - (r + 1))
          case measure => omega
          case rel => exact ⟨r + 1, by omega, by go_num, congrArg Value.bool H1.out.symm, congrArg Value.bool H2.out.symm, H3.out, HS.out⟩
        · rw [show anyT (fun x => !keyB x.u (newU m.u) && ovB x.u (newU m.u)) l r = true from hme] at H2
          go_upto_region 9 with fail
          refine wp_region_held_drew (S := AddS w (.slice (some ⟨b, o, none⟩) l.length cap) l m Bn) (by kernel_rfl) (AddS.below (Below.refl _ _).drew HS.out) (fun hS => ?_)
          clear HS
          generalize wr.drew = W at *
          refine seqRead 0 (v := _) rfl (by kernel_rfl) (by kernel_rfl) (by kernel_rfl) (fun _ _ _ h => h) rfl (fun w hSw => by go_simp <;> with_reducible rfl) hS ?_
          try simp only [Act.put, List.setIfInBounds_toArray, List.set_cons_zero, List.set_cons_succ]
          refine seqRead 1 (v := _) rfl (by kernel_rfl) (by kernel_rfl) (by kernel_rfl) (fun _ _ _ h => h) rfl (fun w hSw => by go_simp <;> with_reducible rfl) hS ?_
          try simp only [Act.put, List.setIfInBounds_toArray, List.set_cons_zero, List.set_cons_succ]
          refine seqRead 2 (v := _) rfl (by kernel_rfl) (by kernel_rfl) (by kernel_rfl) (fun _ _ _ h => h) rfl (fun w hSw => by go_simp <;> with_reducible rfl) hS ?_
          try simp only [Act.put, List.setIfInBounds_toArray, List.set_cons_zero, List.set_cons_succ]
          refine seqRead 3 (v := _) rfl (by kernel_rfl) (by kernel_rfl) (by kernel_rfl) (fun _ _ _ h => h) rfl (fun w hSw => execRow rfl b (o + r * 32) rfl (rcl x) _ (hSw.1.1.at' HX.out) Tryz.underlying88 rfl infoR) hS ?_
          try simp only [Act.put, List.setIfInBounds_toArray, List.set_cons_zero, List.set_cons_succ]
          refine seqRead 4 (v := _) rfl (by kernel_rfl) (by kernel_rfl) (by kernel_rfl) (fun _ _ _ h => h) rfl (fun w hSw => execRow0 rfl _ rfl hSw.2.2.2.1 Tryz.underlying88 rfl infoR) hS ?_
          try simp only [Act.put, List.setIfInBounds_toArray, List.set_cons_zero, List.set_cons_succ]
          refine seqCall 5 rfl (by kernel_rfl) rfl (fun K hK => ?_)
          go_simp
          refine (HKy.out _).mono ?_
          rintro e w3 ⟨rfl, hw3⟩
          refine hK.out _ _ (AddS.below hw3 hS) (fun hS => ?_)
          clear hK K hw3
          try simp only [Act.put, List.setIfInBounds_toArray, List.set_cons_zero, List.set_cons_succ]
          refine seqDone (by kernel_rfl) ?_
          have HS := Lib.hid hS
          clear hS
          go_upto_region 13 with fail
          refine wp_region_held_drew (S := AddS w (.slice (some ⟨b, o, none⟩) l.length cap) l m Bn) (by kernel_rfl) (AddS.below (Below.refl _ _).drew HS.out) (fun hS => ?_)
          clear HS
          generalize w3.drew = W5 at *
          refine seqRead 0 (v := _) rfl (by kernel_rfl) (by kernel_rfl) (by kernel_rfl) (fun _ _ _ h => h) rfl (fun w hSw => by go_simp <;> with_reducible rfl) hS ?_
          try simp only [Act.put, List.setIfInBounds_toArray, List.set_cons_zero, List.set_cons_succ]
          refine seqRead 1 (v := _) rfl (by kernel_rfl) (by kernel_rfl) (by kernel_rfl) (fun _ _ _ h => h) rfl (fun w hSw => by go_simp <;> with_reducible rfl) hS ?_
          try simp only [Act.put, List.setIfInBounds_toArray, List.set_cons_zero, List.set_cons_succ]
          refine seqSkip 2 rfl (by kernel_rfl) (by kernel_rfl) (by kernel_rfl) (fun _ _ _ h => h) rfl hS ?_
          try simp only [Act.put, List.setIfInBounds_toArray, List.set_cons_zero, List.set_cons_succ]
          refine seqSkip 3 rfl (by kernel_rfl) (by kernel_rfl) (by kernel_rfl) (fun _ _ _ h => h) rfl hS ?_
          try simp only [Act.put, List.setIfInBounds_toArray, List.set_cons_zero, List.set_cons_succ]
          refine seqSkip 4 rfl (by kernel_rfl) (by kernel_rfl) (by kernel_rfl) (fun _ _ _ h => h) rfl hS ?_
          try simp only [Act.put, List.setIfInBounds_toArray, List.set_cons_zero, List.set_cons_succ]
          refine seqSkip 5 rfl (by kernel_rfl) (by kernel_rfl) (by kernel_rfl) (fun _ _ _ h => h) rfl hS ?_
          try simp only [Act.put, List.setIfInBounds_toArray, List.set_cons_zero, List.set_cons_succ]
          refine seqSkip 6 rfl (by kernel_rfl) (by kernel_rfl) (by kernel_rfl) (fun _ _ _ h => h) rfl hS ?_
          try simp only [Act.put, List.setIfInBounds_toArray, List.set_cons_zero, List.set_cons_succ]
          refine seqSkip 7 rfl (by kernel_rfl) (by kernel_rfl) (by kernel_rfl) (fun _ _ _ h => h) rfl hS ?_
          try simp only [Act.put, List.setIfInBounds_toArray, List.set_cons_zero, List.set_cons_succ]
          refine seqRead 8 (v := _) rfl (by kernel_rfl) (by kernel_rfl) (by kernel_rfl) (fun _ _ _ h => h) rfl (fun w hSw => by go_simp <;> with_reducible rfl) hS ?_
          try simp only [Act.put, List.setIfInBounds_toArray, List.set_cons_zero, List.set_cons_succ]
          refine seqRead 9 (v := _) rfl (by kernel_rfl) (by kernel_rfl) (by kernel_rfl) (fun _ _ _ h => h) rfl (fun w hSw => by go_simp <;> with_reducible rfl) hS ?_
          try simp only [Act.put, List.setIfInBounds_toArray, List.set_cons_zero, List.set_cons_succ]
          refine seqDone (by kernel_rfl) ?_
          have HS := Lib.hid hS
          clear hS
          go_wp2_with fail
          go_roundg (l.length - (r + 1))
          case measure => omega
          case rel => exact ⟨r + 1, by omega, by go_num, congrArg Value.bool H1.out.symm, congrArg Value.bool H2.out.symm, H3.out, HS.out⟩
      · rw [hky] at HKy H1 H2 H3
        have HKT := Lib.hid hky
        clear hky
        rw [Bool.or_true] at H1
        rw [Bool.not_true, Bool.false_and, Bool.or_false] at H2
        by_cases ho : x.u.owner = m.u.owner
        · have hob := neF ho
          have hod := eq_true0 ho
          rw [hob] at H3
          go_upto_region 9 with fail
          refine wp_region_held_drew (S := AddS w (.slice (some ⟨b, o, none⟩) l.length cap) l m Bn) (by kernel_rfl) (AddS.below (Below.refl _ _).drew HS.out) (fun hS => ?_)
          clear HS
          generalize wr.drew = W at *
          refine seqRead 0 (v := _) rfl (by kernel_rfl) (by kernel_rfl) (by kernel_rfl) (fun _ _ _ h => h) rfl (fun w hSw => by go_simp <;> with_reducible rfl) hS ?_
          try simp only [Act.put, List.setIfInBounds_toArray, List.set_cons_zero, List.set_cons_succ]
          refine seqRead 1 (v := _) rfl (by kernel_rfl) (by kernel_rfl) (by kernel_rfl) (fun _ _ _ h => h) rfl (fun w hSw => by go_simp <;> with_reducible rfl) hS ?_
          try simp only [Act.put, List.setIfInBounds_toArray, List.set_cons_zero, List.set_cons_succ]
          refine seqRead 2 (v := _) rfl (by kernel_rfl) (by kernel_rfl) (by kernel_rfl) (fun _ _ _ h => h) rfl (fun w hSw => by go_simp <;> with_reducible rfl) hS ?_
          try simp only [Act.put, List.setIfInBounds_toArray, List.set_cons_zero, List.set_cons_succ]
          refine seqRead 3 (v := _) rfl (by kernel_rfl) (by kernel_rfl) (by kernel_rfl) (fun _ _ _ h => h) rfl (fun w hSw => execRow rfl b (o + r * 32) rfl (rcl x) _ (hSw.1.1.at' HX.out) Tryz.underlying88 rfl infoR) hS ?_
          try simp only [Act.put, List.setIfInBounds_toArray, List.set_cons_zero, List.set_cons_succ]
          refine seqRead 4 (v := _) rfl (by kernel_rfl) (by kernel_rfl) (by kernel_rfl) (fun _ _ _ h => h) rfl (fun w hSw => execRow0 rfl _ rfl hSw.2.2.2.1 Tryz.underlying88 rfl infoR) hS ?_
          try simp only [Act.put, List.setIfInBounds_toArray, List.set_cons_zero, List.set_cons_succ]
          refine seqCall 5 rfl (by kernel_rfl) rfl (fun K hK => ?_)
          go_simp
          refine (HKy.out _).mono ?_
          rintro e w3 ⟨rfl, hw3⟩
          refine hK.out _ _ (AddS.below hw3 hS) (fun hS => ?_)
          clear hK K hw3
          try simp only [Act.put, List.setIfInBounds_toArray, List.set_cons_zero, List.set_cons_succ]
          refine seqDone (by kernel_rfl) ?_
          have HS := Lib.hid hS
          clear hS
          have kO := (cellsR_mid (HS.out.1.1.at' HX.out)).owner
          have kM := HS.out.2.2.1.cellsM.2.2.2.2.2.2.1
          go_upto_region 11 with fail
          go_quiet (fail)
          have HS9 := Lib.hid (AddS.below (belowDrewN w3 nq) HS.out)
          clear HS kO kM
          generalize w3.drewN nq = W4 at *
          have HS := HS9
          clear HS9
          go_wp2_with fail
          go_roundg (l.length - (r + 1))
          case measure => omega
          case rel => exact ⟨r + 1, by omega, by go_num, congrArg Value.bool H1.out.symm, congrArg Value.bool H2.out.symm, H3.out, HS.out⟩
        · have hob := neT ho
          have hod := eq_false0 ho
          have HR := Lib.hid (show applyE (l.map (·.u)) m.u room = 7 by rw [HAE.out, anyT_mem HX.out (by unfold q7; rw [HKT.out, hob]; rfl)]; rfl)
          go_upto_region 9 with fail
          refine wp_region_held_drew (S := AddS w (.slice (some ⟨b, o, none⟩) l.length cap) l m Bn) (by kernel_rfl) (AddS.below (Below.refl _ _).drew HS.out) (fun hS => ?_)
          clear HS
          generalize wr.drew = W at *
          refine seqRead 0 (v := _) rfl (by kernel_rfl) (by kernel_rfl) (by kernel_rfl) (fun _ _ _ h => h) rfl (fun w hSw => by go_simp <;> with_reducible rfl) hS ?_
          try simp only [Act.put, List.setIfInBounds_toArray, List.set_cons_zero, List.set_cons_succ]
          refine seqRead 1 (v := _) rfl (by kernel_rfl) (by kernel_rfl) (by kernel_rfl) (fun _ _ _ h => h) rfl (fun w hSw => by go_simp <;> with_reducible rfl) hS ?_
          try simp only [Act.put, List.setIfInBounds_toArray, List.set_cons_zero, List.set_cons_succ]
          refine seqRead 2 (v := _) rfl (by kernel_rfl) (by kernel_rfl) (by kernel_rfl) (fun _ _ _ h => h) rfl (fun w hSw => by go_simp <;> with_reducible rfl) hS ?_
          try simp only [Act.put, List.setIfInBounds_toArray, List.set_cons_zero, List.set_cons_succ]
          refine seqRead 3 (v := _) rfl (by kernel_rfl) (by kernel_rfl) (by kernel_rfl) (fun _ _ _ h => h) rfl (fun w hSw => execRow rfl b (o + r * 32) rfl (rcl x) _ (hSw.1.1.at' HX.out) Tryz.underlying88 rfl infoR) hS ?_
          try simp only [Act.put, List.setIfInBounds_toArray, List.set_cons_zero, List.set_cons_succ]
          refine seqRead 4 (v := _) rfl (by kernel_rfl) (by kernel_rfl) (by kernel_rfl) (fun _ _ _ h => h) rfl (fun w hSw => execRow0 rfl _ rfl hSw.2.2.2.1 Tryz.underlying88 rfl infoR) hS ?_
          try simp only [Act.put, List.setIfInBounds_toArray, List.set_cons_zero, List.set_cons_succ]
          refine seqCall 5 rfl (by kernel_rfl) rfl (fun K hK => ?_)
          go_simp
          refine (HKy.out _).mono ?_
          rintro e w3 ⟨rfl, hw3⟩
          refine hK.out _ _ (AddS.below hw3 hS) (fun hS => ?_)
          clear hK K hw3
          try simp only [Act.put, List.setIfInBounds_toArray, List.set_cons_zero, List.set_cons_succ]
          refine seqDone (by kernel_rfl) ?_
          have HS := Lib.hid hS
          clear hS
          have kO := (cellsR_mid (HS.out.1.1.at' HX.out)).owner
          have kM := HS.out.2.2.1.cellsM.2.2.2.2.2.2.1
          go_upto_region 11 with fail
          go_quiet (fail)
          have HB9 := Lib.hid (HS.out.2.2.2.2.below (belowDrewN w3 nq)).kept
          clear HS kO kM
          generalize w3.drewN nq = W4 at *
          go_wp2_with fail
          go_ret2
          exact RaO.no HR.out (by decide) HB9.out
    · have hltI : ¬ (r : Int) < (l.length : Int) := by omega
      obtain rfl : r = l.length := by omega
      rw [H7.out] at HAE
      obtain ⟨t1, ht1⟩ : ∃ t1, t1 = anyT (q1 m.u) l l.length := ⟨_, rfl⟩
      obtain ⟨t6, ht6⟩ : ∃ t6, t6 = anyT (q6 m.u) l l.length := ⟨_, rfl⟩
      rw [← ht1, ← ht6] at HAE
      rw [← ht1, ← ht6]
      clear ht1 ht6
      have k30 := HS.out.2.2.1.cellsM.2.2.2.2.2.2.2
      cases hch : m.u.chk
      · rw [hch] at k30 HAE
        clear hch
        rw [Bool.false_and] at HAE
        cases t1
        · by_cases hd : room ≤ (l.length : Int)
          · skip
            have HR := Lib.hid (show applyE (l.map (·.u)) m.u room = 3 by rw [HAE.out, dT hd]; rfl)
            go_wp2_with fail
            go_ret2
            exact RaO.no HR.out (by decide) HS.out.2.2.2.2.kept
          · skip
            have HE := Lib.hid (show applyE (l.map (·.u)) m.u room = 0 by rw [HAE.out, dF (show ¬ room ≤ (l.length : Int) from hd)]; rfl)
            have HV := Lib.hid (HAL.out HE.out)
            go_upto_region 18 with fail
            refine wp_region_held_drew (S := AddS w (.slice p l.length cap) l m Bn) (by kernel_rfl) (AddS.below (Below.refl _ _).drew HS.out) (fun hS => ?_)
            have HSW := Lib.hid hS
            clear HS k30 HAE HAL
            generalize wr.drew = W at *
            refine seqRead 1 (v := _) rfl (by kernel_rfl) (by kernel_rfl) (by kernel_rfl) (fun _ _ _ h => h) rfl (fun w hSw => by go_simp <;> with_reducible rfl) hS ?_
            try simp only [Act.put, List.setIfInBounds_toArray, List.set_cons_zero, List.set_cons_succ]
            refine seqRead 3 (v := _) rfl (by kernel_rfl) (by kernel_rfl) (by kernel_rfl) (fun _ _ _ h => h) rfl (fun w hSw => execRow0 rfl _ rfl hSw.2.2.2.1 Tryz.underlying88 rfl infoR) hS ?_
            try simp only [Act.put, List.setIfInBounds_toArray, List.set_cons_zero, List.set_cons_succ]
            refine seqActs2 0 4 rfl rfl (by kernel_rfl) rfl (fun K hK => ?_) rfl (fun K hK => ?_)
            · refine kbuildNoneWp KR okR rfl ?_
              have HO := Lib.hid (KOwns.built (K := KR) W W.heap.size (Nat.le_refl _))
              have HB0 := Lib.hid (below1 W (.cells #[] KR.T))
              refine hK.out _ _ (AddS.below (below1 _ _) hS) (fun hS => ?_)
              clear hK K
              try simp only [Act.put, List.setIfInBounds_toArray, List.set_cons_zero, List.set_cons_succ]
              refine seqActs2 2 4 rfl rfl (by kernel_rfl) rfl (fun K hK => ?_) rfl (fun K hK => ?_)
              · refine kappendWp KR okR (.tmp 82) (.tmp 83) rfl W.heap.size _ [] l rfl HO.out _ rfl hS.1.1 HB0.out.size (by simp; omega) (fun v5 w5 ho5 hg5 => ?_)
                have HB5 := Lib.hid (kbelowOwn HB0.out HO.out (Nat.le_refl _) hg5)
                have HO5 := Lib.hid ho5
                have S5 := AddS.below HB5.out HSW.out
                clear ho5 hg5 HO HB0
                refine hK.out _ _ S5 (fun hS => ?_)
                clear hK K S5
                try simp only [Act.put, List.setIfInBounds_toArray, List.set_cons_zero, List.set_cons_succ]
                refine seqCall 4 rfl (by kernel_rfl) rfl (fun K hK => ?_)
                refine kbuildOneWp KR okR #[Value.int IntKind.u64 0, Value.int IntKind.u64 0, Value.int IntKind.u64 0, Value.int IntKind.u64 0, Value.int IntKind.u64 0, Value.int IntKind.u64 0, Value.int IntKind.u64 0, Value.int IntKind.u64 0, Value.int IntKind.u64 0, Value.int IntKind.u64 0, Value.int IntKind.u64 0, Value.int IntKind.u64 0, Value.int IntKind.u64 0, Value.int IntKind.u64 0, Value.int IntKind.u64 0, Value.int IntKind.u64 0, Value.int IntKind.u64 0, Value.int IntKind.u64 0, Value.int IntKind.u64 0, Value.int IntKind.u64 0, Value.int IntKind.u64 0, Value.int IntKind.u64 0, Value.int IntKind.u64 0, Value.int IntKind.u64 0, Value.int IntKind.i64 0, Value.slice none 0 0, Value.int IntKind.i64 0, Value.int IntKind.i64 0, Value.int IntKind.i64 0, Value.int IntKind.i64 0, Value.int IntKind.i64 0, Value.int IntKind.i64 0] zeroR (.tmp 85) rfl (rca (newR m)) rfl (by decide) (fillOne (newR m)) ?_
                have RX := Lib.hid (Blk.new w5 (rca (newR m)) KR.T)
                have HO6 := Lib.hid (HO5.out.below (below1 w5 (.cells (rca (newR m)) KR.T)))
                have HB6 := Lib.hid (HB5.out.trans ((below1 w5 (.cells (rca (newR m)) KR.T)).mono HB5.out.size))
                clear HO5 HB5
                refine hK.out _ _ (AddS.below (below1 _ _) hS) (fun hS => ?_)
                clear hK K
                try simp only [Act.put, List.setIfInBounds_toArray, List.set_cons_zero, List.set_cons_succ]
                refine seqCall 5 rfl (by kernel_rfl) rfl (fun K hK => ?_)
                refine kappendWp KR okR (.tmp 84) (.tmp 86) rfl W.heap.size v5 ([] ++ l) [newR m] rfl HO6.out _ rfl (Blk.klies (l := [newR m]) RX.out okR (by simp [Kd.flat, rca])) HB6.out.size (by simp; omega) (fun v7 w7 ho7 hg7 => ?_)
                have HB7 := Lib.hid (kbelowOwn HB6.out HO6.out (Nat.le_refl _) hg7)
                have HO7 := Lib.hid (show KLies KR v7 (l ++ [newR m]) w7 by have := ho7.lies okR; simpa using this)
                have S7 := AddS.below HB7.out HSW.out
                clear ho7 hg7 HO6 HB6 RX
                refine hK.out _ _ S7 (fun hS => ?_)
                clear hK K S7
                try simp only [Act.put, List.setIfInBounds_toArray, List.set_cons_zero, List.set_cons_succ]
                refine seqCall 6 rfl (by kernel_rfl) rfl (fun K hK => ?_)
                go_simp
                refine (rrsort_any v7 (l ++ [newR m]) (by simp; omega) HWN.out w7 ⟨HO7.out, inNew hS.1.2 hS.2.1⟩ hS.2.2.2.2.tab hS.2.2.2.2.lt).mono ?_
                rintro e w8 ⟨v8, rfl, hl8, hw8⟩
                have HL8 := Lib.hid (show KOwns KR w.heap.size v8 (tblM (l ++ [newR m])) w8 from hl8.mono hS.2.2.2.2.kept.size)
                refine hK.out _ _ (AddS.below hw8 hS) (fun hS => ?_)
                clear hK K hl8 hw8
                try simp only [Act.put, List.setIfInBounds_toArray, List.set_cons_zero, List.set_cons_succ]
                refine seqRead 7 (v := _) rfl (by kernel_rfl) (by kernel_rfl) (by kernel_rfl) (fun _ _ _ h => h) rfl (fun w hSw => by go_simp <;> with_reducible rfl) hS ?_
                try simp only [Act.put, List.setIfInBounds_toArray, List.set_cons_zero, List.set_cons_succ]
                refine seqRead 8 (v := _) rfl (by kernel_rfl) (by kernel_rfl) (by kernel_rfl) (fun _ _ _ h => h) rfl (fun w hSw => by go_simp <;> with_reducible rfl) hS ?_
                try simp only [Act.put, List.setIfInBounds_toArray, List.set_cons_zero, List.set_cons_succ]
                refine seqDone (by kernel_rfl) ?_
                have HB8 := Lib.hid hS.2.2.2.2.kept
                clear hS HO7 HB7 HSW
                go_wp2_with fail
                go_ret2
                exact ⟨v8, _, by rw [HE.out]; rfl, by rw [tblM_map, List.map_append]; exact HV.out.symm, HL8.out, fun y hy W h1 h2 => inNew h1 h2 y (tblM_sub hy), HB8.out⟩
              · refine kbuildOneWp KR okR #[Value.int IntKind.u64 0, Value.int IntKind.u64 0, Value.int IntKind.u64 0, Value.int IntKind.u64 0, Value.int IntKind.u64 0, Value.int IntKind.u64 0, Value.int IntKind.u64 0, Value.int IntKind.u64 0, Value.int IntKind.u64 0, Value.int IntKind.u64 0, Value.int IntKind.u64 0, Value.int IntKind.u64 0, Value.int IntKind.u64 0, Value.int IntKind.u64 0, Value.int IntKind.u64 0, Value.int IntKind.u64 0, Value.int IntKind.u64 0, Value.int IntKind.u64 0, Value.int IntKind.u64 0, Value.int IntKind.u64 0, Value.int IntKind.u64 0, Value.int IntKind.u64 0, Value.int IntKind.u64 0, Value.int IntKind.u64 0, Value.int IntKind.i64 0, Value.slice none 0 0, Value.int IntKind.i64 0, Value.int IntKind.i64 0, Value.int IntKind.i64 0, Value.int IntKind.i64 0, Value.int IntKind.i64 0, Value.int IntKind.i64 0] zeroR (.tmp 85) rfl (rca (newR m)) rfl (by decide) (fillOne (newR m)) ?_
                have RX1 := Lib.hid (Blk.new (W.alloc (.cells #[] KR.T)) (rca (newR m)) KR.T)
                have HO1 := Lib.hid (HO.out.below (below1 (W.alloc (.cells #[] KR.T)) (.cells (rca (newR m)) KR.T)))
                have HB1 := Lib.hid (HB0.out.trans ((below1 (W.alloc (.cells #[] KR.T)) (.cells (rca (newR m)) KR.T)).mono HB0.out.size))
                have hne : (W.alloc (.cells #[] KR.T)).heap.size ≠ W.heap.size := by have := (Blk.new W #[] KR.T).lt; omega
                clear HO HB0
                refine hK.out _ _ (AddS.below (below1 _ _) hS) (fun hS => ?_)
                clear hK K
                try simp only [Act.put, List.setIfInBounds_toArray, List.set_cons_zero, List.set_cons_succ]
                refine seqCall 2 rfl (by kernel_rfl) rfl (fun K hK => ?_)
                refine kappendWp KR okR (.tmp 82) (.tmp 83) rfl W.heap.size _ [] l rfl HO1.out _ rfl hS.1.1 HB1.out.size (by simp; omega) (fun v5 w5 ho5 hg5 => ?_)
                have HB5 := Lib.hid (kbelowOwn HB1.out HO1.out (Nat.le_refl _) hg5)
                have HO5 := Lib.hid ho5
                have RX5 := Lib.hid (show Blk _ (rca (newR m)) KR.T w5 from (hg5.block _ RX1.out.lt (fun e => hne (by injection e))).trans RX1.out)
                clear RX1 hne
                have S5 := AddS.below HB5.out HSW.out
                clear ho5 hg5 HO1 HB1
                refine hK.out _ _ S5 (fun hS => ?_)
                clear hK K S5
                try simp only [Act.put, List.setIfInBounds_toArray, List.set_cons_zero, List.set_cons_succ]
                refine seqCall 5 rfl (by kernel_rfl) rfl (fun K hK => ?_)
                refine kappendWp KR okR (.tmp 84) (.tmp 86) rfl W.heap.size v5 ([] ++ l) [newR m] rfl HO5.out _ rfl (Blk.klies (l := [newR m]) RX5.out okR (by simp [Kd.flat, rca])) HB5.out.size (by simp; omega) (fun v7 w7 ho7 hg7 => ?_)
                have HB7 := Lib.hid (kbelowOwn HB5.out HO5.out (Nat.le_refl _) hg7)
                have HO7 := Lib.hid (show KLies KR v7 (l ++ [newR m]) w7 by have := ho7.lies okR; simpa using this)
                have S7 := AddS.below HB7.out HSW.out
                clear ho7 hg7 HO5 HB5 RX5
                refine hK.out _ _ S7 (fun hS => ?_)
                clear hK K S7
                try simp only [Act.put, List.setIfInBounds_toArray, List.set_cons_zero, List.set_cons_succ]
                refine seqCall 6 rfl (by kernel_rfl) rfl (fun K hK => ?_)
                go_simp
                refine (rrsort_any v7 (l ++ [newR m]) (by simp; omega) HWN.out w7 ⟨HO7.out, inNew hS.1.2 hS.2.1⟩ hS.2.2.2.2.tab hS.2.2.2.2.lt).mono ?_
                rintro e w8 ⟨v8, rfl, hl8, hw8⟩
                have HL8 := Lib.hid (show KOwns KR w.heap.size v8 (tblM (l ++ [newR m])) w8 from hl8.mono hS.2.2.2.2.kept.size)
                refine hK.out _ _ (AddS.below hw8 hS) (fun hS => ?_)
                clear hK K hl8 hw8
                try simp only [Act.put, List.setIfInBounds_toArray, List.set_cons_zero, List.set_cons_succ]
                refine seqRead 7 (v := _) rfl (by kernel_rfl) (by kernel_rfl) (by kernel_rfl) (fun _ _ _ h => h) rfl (fun w hSw => by go_simp <;> with_reducible rfl) hS ?_
                try simp only [Act.put, List.setIfInBounds_toArray, List.set_cons_zero, List.set_cons_succ]
                refine seqRead 8 (v := _) rfl (by kernel_rfl) (by kernel_rfl) (by kernel_rfl) (fun _ _ _ h => h) rfl (fun w hSw => by go_simp <;> with_reducible rfl) hS ?_
                try simp only [Act.put, List.setIfInBounds_toArray, List.set_cons_zero, List.set_cons_succ]
                refine seqDone (by kernel_rfl) ?_
                have HB8 := Lib.hid hS.2.2.2.2.kept
                clear hS HO7 HB7 HSW
                go_wp2_with fail
                go_ret2
                exact ⟨v8, _, by rw [HE.out]; rfl, by rw [tblM_map, List.map_append]; exact HV.out.symm, HL8.out, fun y hy W h1 h2 => inNew h1 h2 y (tblM_sub hy), HB8.out⟩
            · refine kbuildOneWp KR okR #[Value.int IntKind.u64 0, Value.int IntKind.u64 0, Value.int IntKind.u64 0, Value.int IntKind.u64 0, Value.int IntKind.u64 0, Value.int IntKind.u64 0, Value.int IntKind.u64 0, Value.int IntKind.u64 0, Value.int IntKind.u64 0, Value.int IntKind.u64 0, Value.int IntKind.u64 0, Value.int IntKind.u64 0, Value.int IntKind.u64 0, Value.int IntKind.u64 0, Value.int IntKind.u64 0, Value.int IntKind.u64 0, Value.int IntKind.u64 0, Value.int IntKind.u64 0, Value.int IntKind.u64 0, Value.int IntKind.u64 0, Value.int IntKind.u64 0, Value.int IntKind.u64 0, Value.int IntKind.u64 0, Value.int IntKind.u64 0, Value.int IntKind.i64 0, Value.slice none 0 0, Value.int IntKind.i64 0, Value.int IntKind.i64 0, Value.int IntKind.i64 0, Value.int IntKind.i64 0, Value.int IntKind.i64 0, Value.int IntKind.i64 0] zeroR (.tmp 85) rfl (rca (newR m)) rfl (by decide) (fillOne (newR m)) ?_
              have RX := Lib.hid (Blk.new W (rca (newR m)) KR.T)
              refine hK.out _ _ (AddS.below (below1 _ _) hS) (fun hS => ?_)
              clear hK K
              try simp only [Act.put, List.setIfInBounds_toArray, List.set_cons_zero, List.set_cons_succ]
              refine seqCall 0 rfl (by kernel_rfl) rfl (fun K hK => ?_)
              refine kbuildNoneWp KR okR rfl ?_
              have HO := Lib.hid (KOwns.built (K := KR) (W.alloc (.cells (rca (newR m)) KR.T)) W.heap.size (below1 W (.cells (rca (newR m)) KR.T)).size)
              have HB0 := Lib.hid ((below1 W (.cells (rca (newR m)) KR.T)).trans ((below1 (W.alloc (.cells (rca (newR m)) KR.T)) (.cells #[] KR.T)).mono (below1 W (.cells (rca (newR m)) KR.T)).size))
              have RX1 := Lib.hid (RX.out.old (.cells #[] KR.T))
              have hne : W.heap.size ≠ (W.alloc (.cells (rca (newR m)) KR.T)).heap.size := by have := RX.out.lt; omega
              clear RX
              refine hK.out _ _ (AddS.below (below1 _ _) hS) (fun hS => ?_)
              clear hK K
              try simp only [Act.put, List.setIfInBounds_toArray, List.set_cons_zero, List.set_cons_succ]
              refine seqCall 2 rfl (by kernel_rfl) rfl (fun K hK => ?_)
              refine kappendWp KR okR (.tmp 82) (.tmp 83) rfl W.heap.size _ [] l rfl HO.out _ rfl hS.1.1 HB0.out.size (by simp; omega) (fun v5 w5 ho5 hg5 => ?_)
              have HB5 := Lib.hid (kbelowOwn HB0.out HO.out (Nat.le_refl _) hg5)
              have HO5 := Lib.hid ho5
              have RX5 := Lib.hid (show Blk _ (rca (newR m)) KR.T w5 from (hg5.block _ RX1.out.lt (fun e => hne (by injection e))).trans RX1.out)
              clear RX1 hne
              have S5 := AddS.below HB5.out HSW.out
              clear ho5 hg5 HO HB0
              refine hK.out _ _ S5 (fun hS => ?_)
              clear hK K S5
              try simp only [Act.put, List.setIfInBounds_toArray, List.set_cons_zero, List.set_cons_succ]
              refine seqCall 5 rfl (by kernel_rfl) rfl (fun K hK => ?_)
              refine kappendWp KR okR (.tmp 84) (.tmp 86) rfl W.heap.size v5 ([] ++ l) [newR m] rfl HO5.out _ rfl (Blk.klies (l := [newR m]) RX5.out okR (by simp [Kd.flat, rca])) HB5.out.size (by simp; omega) (fun v7 w7 ho7 hg7 => ?_)
              have HB7 := Lib.hid (kbelowOwn HB5.out HO5.out (Nat.le_refl _) hg7)
              have HO7 := Lib.hid (show KLies KR v7 (l ++ [newR m]) w7 by have := ho7.lies okR; simpa using this)
              have S7 := AddS.below HB7.out HSW.out
              clear ho7 hg7 HO5 HB5 RX5
              refine hK.out _ _ S7 (fun hS => ?_)
              clear hK K S7
              try simp only [Act.put, List.setIfInBounds_toArray, List.set_cons_zero, List.set_cons_succ]
              refine seqCall 6 rfl (by kernel_rfl) rfl (fun K hK => ?_)
              go_simp
              refine (rrsort_any v7 (l ++ [newR m]) (by simp; omega) HWN.out w7 ⟨HO7.out, inNew hS.1.2 hS.2.1⟩ hS.2.2.2.2.tab hS.2.2.2.2.lt).mono ?_
              rintro e w8 ⟨v8, rfl, hl8, hw8⟩
              have HL8 := Lib.hid (show KOwns KR w.heap.size v8 (tblM (l ++ [newR m])) w8 from hl8.mono hS.2.2.2.2.kept.size)
              refine hK.out _ _ (AddS.below hw8 hS) (fun hS => ?_)
              clear hK K hl8 hw8
              try simp only [Act.put, List.setIfInBounds_toArray, List.set_cons_zero, List.set_cons_succ]
              refine seqRead 7 (v := _) rfl (by kernel_rfl) (by kernel_rfl) (by kernel_rfl) (fun _ _ _ h => h) rfl (fun w hSw => by go_simp <;> with_reducible rfl) hS ?_
              try simp only [Act.put, List.setIfInBounds_toArray, List.set_cons_zero, List.set_cons_succ]
              refine seqRead 8 (v := _) rfl (by kernel_rfl) (by kernel_rfl) (by kernel_rfl) (fun _ _ _ h => h) rfl (fun w hSw => by go_simp <;> with_reducible rfl) hS ?_
              try simp only [Act.put, List.setIfInBounds_toArray, List.set_cons_zero, List.set_cons_succ]
              refine seqDone (by kernel_rfl) ?_
              have HB8 := Lib.hid hS.2.2.2.2.kept
              clear hS HO7 HB7 HSW
              go_wp2_with fail
              go_ret2
              exact ⟨v8, _, by rw [HE.out]; rfl, by rw [tblM_map, List.map_append]; exact HV.out.symm, HL8.out, fun y hy W h1 h2 => inNew h1 h2 y (tblM_sub hy), HB8.out⟩
        · skip
          have HE := Lib.hid (show applyE (l.map (·.u)) m.u room = 0 by rw [HAE.out]; rfl)
          have HV := Lib.hid (HAL.out HE.out)
          go_upto_region 18 with fail
          refine wp_region_held_drew (S := AddS w (.slice p l.length cap) l m Bn) (by kernel_rfl) (AddS.below (Below.refl _ _).drew HS.out) (fun hS => ?_)
          have HSW := Lib.hid hS
          clear HS k30 HAE HAL
          generalize wr.drew = W at *
          refine seqRead 1 (v := _) rfl (by kernel_rfl) (by kernel_rfl) (by kernel_rfl) (fun _ _ _ h => h) rfl (fun w hSw => by go_simp <;> with_reducible rfl) hS ?_
          try simp only [Act.put, List.setIfInBounds_toArray, List.set_cons_zero, List.set_cons_succ]
          refine seqRead 3 (v := _) rfl (by kernel_rfl) (by kernel_rfl) (by kernel_rfl) (fun _ _ _ h => h) rfl (fun w hSw => execRow0 rfl _ rfl hSw.2.2.2.1 Tryz.underlying88 rfl infoR) hS ?_
          try simp only [Act.put, List.setIfInBounds_toArray, List.set_cons_zero, List.set_cons_succ]
          refine seqActs2 0 4 rfl rfl (by kernel_rfl) rfl (fun K hK => ?_) rfl (fun K hK => ?_)
          · refine kbuildNoneWp KR okR rfl ?_
            have HO := Lib.hid (KOwns.built (K := KR) W W.heap.size (Nat.le_refl _))
            have HB0 := Lib.hid (below1 W (.cells #[] KR.T))
            refine hK.out _ _ (AddS.below (below1 _ _) hS) (fun hS => ?_)
            clear hK K
            try simp only [Act.put, List.setIfInBounds_toArray, List.set_cons_zero, List.set_cons_succ]
            refine seqActs2 2 4 rfl rfl (by kernel_rfl) rfl (fun K hK => ?_) rfl (fun K hK => ?_)
            · refine kappendWp KR okR (.tmp 82) (.tmp 83) rfl W.heap.size _ [] l rfl HO.out _ rfl hS.1.1 HB0.out.size (by simp; omega) (fun v5 w5 ho5 hg5 => ?_)
              have HB5 := Lib.hid (kbelowOwn HB0.out HO.out (Nat.le_refl _) hg5)
              have HO5 := Lib.hid ho5
              have S5 := AddS.below HB5.out HSW.out
              clear ho5 hg5 HO HB0
              refine hK.out _ _ S5 (fun hS => ?_)
              clear hK K S5
              try simp only [Act.put, List.setIfInBounds_toArray, List.set_cons_zero, List.set_cons_succ]
              refine seqCall 4 rfl (by kernel_rfl) rfl (fun K hK => ?_)
              refine kbuildOneWp KR okR #[Value.int IntKind.u64 0, Value.int IntKind.u64 0, Value.int IntKind.u64 0, Value.int IntKind.u64 0, Value.int IntKind.u64 0, Value.int IntKind.u64 0, Value.int IntKind.u64 0, Value.int IntKind.u64 0, Value.int IntKind.u64 0, Value.int IntKind.u64 0, Value.int IntKind.u64 0, Value.int IntKind.u64 0, Value.int IntKind.u64 0, Value.int IntKind.u64 0, Value.int IntKind.u64 0, Value.int IntKind.u64 0, Value.int IntKind.u64 0, Value.int IntKind.u64 0, Value.int IntKind.u64 0, Value.int IntKind.u64 0, Value.int IntKind.u64 0, Value.int IntKind.u64 0, Value.int IntKind.u64 0, Value.int IntKind.u64 0, Value.int IntKind.i64 0, Value.slice none 0 0, Value.int IntKind.i64 0, Value.int IntKind.i64 0, Value.int IntKind.i64 0, Value.int IntKind.i64 0, Value.int IntKind.i64 0, Value.int IntKind.i64 0] zeroR (.tmp 85) rfl (rca (newR m)) rfl (by decide) (fillOne (newR m)) ?_
              have RX := Lib.hid (Blk.new w5 (rca (newR m)) KR.T)
              have HO6 := Lib.hid (HO5.out.below (below1 w5 (.cells (rca (newR m)) KR.T)))
              have HB6 := Lib.hid (HB5.out.trans ((below1 w5 (.cells (rca (newR m)) KR.T)).mono HB5.out.size))
              clear HO5 HB5
              refine hK.out _ _ (AddS.below (below1 _ _) hS) (fun hS => ?_)
              clear hK K
              try simp only [Act.put, List.setIfInBounds_toArray, List.set_cons_zero, List.set_cons_succ]
              refine seqCall 5 rfl (by kernel_rfl) rfl (fun K hK => ?_)
              refine kappendWp KR okR (.tmp 84) (.tmp 86) rfl W.heap.size v5 ([] ++ l) [newR m] rfl HO6.out _ rfl (Blk.klies (l := [newR m]) RX.out okR (by simp [Kd.flat, rca])) HB6.out.size (by simp; omega) (fun v7 w7 ho7 hg7 => ?_)
              have HB7 := Lib.hid (kbelowOwn HB6.out HO6.out (Nat.le_refl _) hg7)
              have HO7 := Lib.hid (show KLies KR v7 (l ++ [newR m]) w7 by have := ho7.lies okR; simpa using this)
              have S7 := AddS.below HB7.out HSW.out
              clear ho7 hg7 HO6 HB6 RX
              refine hK.out _ _ S7 (fun hS => ?_)
              clear hK K S7
              try simp only [Act.put, List.setIfInBounds_toArray, List.set_cons_zero, List.set_cons_succ]
              refine seqCall 6 rfl (by kernel_rfl) rfl (fun K hK => ?_)
              go_simp
              refine (rrsort_any v7 (l ++ [newR m]) (by simp; omega) HWN.out w7 ⟨HO7.out, inNew hS.1.2 hS.2.1⟩ hS.2.2.2.2.tab hS.2.2.2.2.lt).mono ?_
              rintro e w8 ⟨v8, rfl, hl8, hw8⟩
              have HL8 := Lib.hid (show KOwns KR w.heap.size v8 (tblM (l ++ [newR m])) w8 from hl8.mono hS.2.2.2.2.kept.size)
              refine hK.out _ _ (AddS.below hw8 hS) (fun hS => ?_)
              clear hK K hl8 hw8
              try simp only [Act.put, List.setIfInBounds_toArray, List.set_cons_zero, List.set_cons_succ]
              refine seqRead 7 (v := _) rfl (by kernel_rfl) (by kernel_rfl) (by kernel_rfl) (fun _ _ _ h => h) rfl (fun w hSw => by go_simp <;> with_reducible rfl) hS ?_
              try simp only [Act.put, List.setIfInBounds_toArray, List.set_cons_zero, List.set_cons_succ]
              refine seqRead 8 (v := _) rfl (by kernel_rfl) (by kernel_rfl) (by kernel_rfl) (fun _ _ _ h => h) rfl (fun w hSw => by go_simp <;> with_reducible rfl) hS ?_
              try simp only [Act.put, List.setIfInBounds_toArray, List.set_cons_zero, List.set_cons_succ]
              refine seqDone (by kernel_rfl) ?_
              have HB8 := Lib.hid hS.2.2.2.2.kept
              clear hS HO7 HB7 HSW
              go_wp2_with fail
              go_ret2
              exact ⟨v8, _, by rw [HE.out]; rfl, by rw [tblM_map, List.map_append]; exact HV.out.symm, HL8.out, fun y hy W h1 h2 => inNew h1 h2 y (tblM_sub hy), HB8.out⟩
            · refine kbuildOneWp KR okR #[Value.int IntKind.u64 0, Value.int IntKind.u64 0, Value.int IntKind.u64 0, Value.int IntKind.u64 0, Value.int IntKind.u64 0, Value.int IntKind.u64 0, Value.int IntKind.u64 0, Value.int IntKind.u64 0, Value.int IntKind.u64 0, Value.int IntKind.u64 0, Value.int IntKind.u64 0, Value.int IntKind.u64 0, Value.int IntKind.u64 0, Value.int IntKind.u64 0, Value.int IntKind.u64 0, Value.int IntKind.u64 0, Value.int IntKind.u64 0, Value.int IntKind.u64 0, Value.int IntKind.u64 0, Value.int IntKind.u64 0, Value.int IntKind.u64 0, Value.int IntKind.u64 0, Value.int IntKind.u64 0, Value.int IntKind.u64 0, Value.int IntKind.i64 0, Value.slice none 0 0, Value.int IntKind.i64 0, Value.int IntKind.i64 0, Value.int IntKind.i64 0, Value.int IntKind.i64 0, Value.int IntKind.i64 0, Value.int IntKind.i64 0] zeroR (.tmp 85) rfl (rca (newR m)) rfl (by decide) (fillOne (newR m)) ?_
              have RX1 := Lib.hid (Blk.new (W.alloc (.cells #[] KR.T)) (rca (newR m)) KR.T)
              have HO1 := Lib.hid (HO.out.below (below1 (W.alloc (.cells #[] KR.T)) (.cells (rca (newR m)) KR.T)))
              have HB1 := Lib.hid (HB0.out.trans ((below1 (W.alloc (.cells #[] KR.T)) (.cells (rca (newR m)) KR.T)).mono HB0.out.size))
              have hne : (W.alloc (.cells #[] KR.T)).heap.size ≠ W.heap.size := by have := (Blk.new W #[] KR.T).lt; omega
              clear HO HB0
              refine hK.out _ _ (AddS.below (below1 _ _) hS) (fun hS => ?_)
              clear hK K
              try simp only [Act.put, List.setIfInBounds_toArray, List.set_cons_zero, List.set_cons_succ]
              refine seqCall 2 rfl (by kernel_rfl) rfl (fun K hK => ?_)
              refine kappendWp KR okR (.tmp 82) (.tmp 83) rfl W.heap.size _ [] l rfl HO1.out _ rfl hS.1.1 HB1.out.size (by simp; omega) (fun v5 w5 ho5 hg5 => ?_)
              have HB5 := Lib.hid (kbelowOwn HB1.out HO1.out (Nat.le_refl _) hg5)
              have HO5 := Lib.hid ho5
              have RX5 := Lib.hid (show Blk _ (rca (newR m)) KR.T w5 from (hg5.block _ RX1.out.lt (fun e => hne (by injection e))).trans RX1.out)
              clear RX1 hne
              have S5 := AddS.below HB5.out HSW.out
              clear ho5 hg5 HO1 HB1
              refine hK.out _ _ S5 (fun hS => ?_)
              clear hK K S5
              try simp only [Act.put, List.setIfInBounds_toArray, List.set_cons_zero, List.set_cons_succ]
              refine seqCall 5 rfl (by kernel_rfl) rfl (fun K hK => ?_)
              refine kappendWp KR okR (.tmp 84) (.tmp 86) rfl W.heap.size v5 ([] ++ l) [newR m] rfl HO5.out _ rfl (Blk.klies (l := [newR m]) RX5.out okR (by simp [Kd.flat, rca])) HB5.out.size (by simp; omega) (fun v7 w7 ho7 hg7 => ?_)
              have HB7 := Lib.hid (kbelowOwn HB5.out HO5.out (Nat.le_refl _) hg7)
              have HO7 := Lib.hid (show KLies KR v7 (l ++ [newR m]) w7 by have := ho7.lies okR; simpa using this)
              have S7 := AddS.below HB7.out HSW.out
              clear ho7 hg7 HO5 HB5 RX5
              refine hK.out _ _ S7 (fun hS => ?_)
              clear hK K S7
              try simp only [Act.put, List.setIfInBounds_toArray, List.set_cons_zero, List.set_cons_succ]
              refine seqCall 6 rfl (by kernel_rfl) rfl (fun K hK => ?_)
              go_simp
              refine (rrsort_any v7 (l ++ [newR m]) (by simp; omega) HWN.out w7 ⟨HO7.out, inNew hS.1.2 hS.2.1⟩ hS.2.2.2.2.tab hS.2.2.2.2.lt).mono ?_
              rintro e w8 ⟨v8, rfl, hl8, hw8⟩
              have HL8 := Lib.hid (show KOwns KR w.heap.size v8 (tblM (l ++ [newR m])) w8 from hl8.mono hS.2.2.2.2.kept.size)
              refine hK.out _ _ (AddS.below hw8 hS) (fun hS => ?_)
              clear hK K hl8 hw8
              try simp only [Act.put, List.setIfInBounds_toArray, List.set_cons_zero, List.set_cons_succ]
              refine seqRead 7 (v := _) rfl (by kernel_rfl) (by kernel_rfl) (by kernel_rfl) (fun _ _ _ h => h) rfl (fun w hSw => by go_simp <;> with_reducible rfl) hS ?_
              try simp only [Act.put, List.setIfInBounds_toArray, List.set_cons_zero, List.set_cons_succ]
              refine seqRead 8 (v := _) rfl (by kernel_rfl) (by kernel_rfl) (by kernel_rfl) (fun _ _ _ h => h) rfl (fun w hSw => by go_simp <;> with_reducible rfl) hS ?_
              try simp only [Act.put, List.setIfInBounds_toArray, List.set_cons_zero, List.set_cons_succ]
              refine seqDone (by kernel_rfl) ?_
              have HB8 := Lib.hid hS.2.2.2.2.kept
              clear hS HO7 HB7 HSW
              go_wp2_with fail
              go_ret2
              exact ⟨v8, _, by rw [HE.out]; rfl, by rw [tblM_map, List.map_append]; exact HV.out.symm, HL8.out, fun y hy W h1 h2 => inNew h1 h2 y (tblM_sub hy), HB8.out⟩
          · refine kbuildOneWp KR okR #[Value.int IntKind.u64 0, Value.int IntKind.u64 0, Value.int IntKind.u64 0, Value.int IntKind.u64 0, Value.int IntKind.u64 0, Value.int IntKind.u64 0, Value.int IntKind.u64 0, Value.int IntKind.u64 0, Value.int IntKind.u64 0, Value.int IntKind.u64 0, Value.int IntKind.u64 0, Value.int IntKind.u64 0, Value.int IntKind.u64 0, Value.int IntKind.u64 0, Value.int IntKind.u64 0, Value.int IntKind.u64 0, Value.int IntKind.u64 0, Value.int IntKind.u64 0, Value.int IntKind.u64 0, Value.int IntKind.u64 0, Value.int IntKind.u64 0, Value.int IntKind.u64 0, Value.int IntKind.u64 0, Value.int IntKind.u64 0, Value.int IntKind.i64 0, Value.slice none 0 0, Value.int IntKind.i64 0, Value.int IntKind.i64 0, Value.int IntKind.i64 0, Value.int IntKind.i64 0, Value.int IntKind.i64 0, Value.int IntKind.i64 0] zeroR (.tmp 85) rfl (rca (newR m)) rfl (by decide) (fillOne (newR m)) ?_
            have RX := Lib.hid (Blk.new W (rca (newR m)) KR.T)
            refine hK.out _ _ (AddS.below (below1 _ _) hS) (fun hS => ?_)
            clear hK K
            try simp only [Act.put, List.setIfInBounds_toArray, List.set_cons_zero, List.set_cons_succ]
            refine seqCall 0 rfl (by kernel_rfl) rfl (fun K hK => ?_)
            refine kbuildNoneWp KR okR rfl ?_
            have HO := Lib.hid (KOwns.built (K := KR) (W.alloc (.cells (rca (newR m)) KR.T)) W.heap.size (below1 W (.cells (rca (newR m)) KR.T)).size)
            have HB0 := Lib.hid ((below1 W (.cells (rca (newR m)) KR.T)).trans ((below1 (W.alloc (.cells (rca (newR m)) KR.T)) (.cells #[] KR.T)).mono (below1 W (.cells (rca (newR m)) KR.T)).size))
            have RX1 := Lib.hid (RX.out.old (.cells #[] KR.T))
            have hne : W.heap.size ≠ (W.alloc (.cells (rca (newR m)) KR.T)).heap.size := by have := RX.out.lt; omega
            clear RX
            refine hK.out _ _ (AddS.below (below1 _ _) hS) (fun hS => ?_)
            clear hK K
            try simp only [Act.put, List.setIfInBounds_toArray, List.set_cons_zero, List.set_cons_succ]
            refine seqCall 2 rfl (by kernel_rfl) rfl (fun K hK => ?_)
            refine kappendWp KR okR (.tmp 82) (.tmp 83) rfl W.heap.size _ [] l rfl HO.out _ rfl hS.1.1 HB0.out.size (by simp; omega) (fun v5 w5 ho5 hg5 => ?_)
            have HB5 := Lib.hid (kbelowOwn HB0.out HO.out (Nat.le_refl _) hg5)
            have HO5 := Lib.hid ho5
            have RX5 := Lib.hid (show Blk _ (rca (newR m)) KR.T w5 from (hg5.block _ RX1.out.lt (fun e => hne (by injection e))).trans RX1.out)
            clear RX1 hne
            have S5 := AddS.below HB5.out HSW.out
            clear ho5 hg5 HO HB0
            refine hK.out _ _ S5 (fun hS => ?_)
            clear hK K S5
            try simp only [Act.put, List.setIfInBounds_toArray, List.set_cons_zero, List.set_cons_succ]
            refine seqCall 5 rfl (by kernel_rfl) rfl (fun K hK => ?_)
            refine kappendWp KR okR (.tmp 84) (.tmp 86) rfl W.heap.size v5 ([] ++ l) [newR m] rfl HO5.out _ rfl (Blk.klies (l := [newR m]) RX5.out okR (by simp [Kd.flat, rca])) HB5.out.size (by simp; omega) (fun v7 w7 ho7 hg7 => ?_)
            have HB7 := Lib.hid (kbelowOwn HB5.out HO5.out (Nat.le_refl _) hg7)
            have HO7 := Lib.hid (show KLies KR v7 (l ++ [newR m]) w7 by have := ho7.lies okR; simpa using this)
            have S7 := AddS.below HB7.out HSW.out
            clear ho7 hg7 HO5 HB5 RX5
            refine hK.out _ _ S7 (fun hS => ?_)
            clear hK K S7
            try simp only [Act.put, List.setIfInBounds_toArray, List.set_cons_zero, List.set_cons_succ]
            refine seqCall 6 rfl (by kernel_rfl) rfl (fun K hK => ?_)
            go_simp
            refine (rrsort_any v7 (l ++ [newR m]) (by simp; omega) HWN.out w7 ⟨HO7.out, inNew hS.1.2 hS.2.1⟩ hS.2.2.2.2.tab hS.2.2.2.2.lt).mono ?_
            rintro e w8 ⟨v8, rfl, hl8, hw8⟩
            have HL8 := Lib.hid (show KOwns KR w.heap.size v8 (tblM (l ++ [newR m])) w8 from hl8.mono hS.2.2.2.2.kept.size)
            refine hK.out _ _ (AddS.below hw8 hS) (fun hS => ?_)
            clear hK K hl8 hw8
            try simp only [Act.put, List.setIfInBounds_toArray, List.set_cons_zero, List.set_cons_succ]
            refine seqRead 7 (v := _) rfl (by kernel_rfl) (by kernel_rfl) (by kernel_rfl) (fun _ _ _ h => h) rfl (fun w hSw => by go_simp <;> with_reducible rfl) hS ?_
            try simp only [Act.put, List.setIfInBounds_toArray, List.set_cons_zero, List.set_cons_succ]
            refine seqRead 8 (v := _) rfl (by kernel_rfl) (by kernel_rfl) (by kernel_rfl) (fun _ _ _ h => h) rfl (fun w hSw => by go_simp <;> with_reducible rfl) hS ?_
            try simp only [Act.put, List.setIfInBounds_toArray, List.set_cons_zero, List.set_cons_succ]
            refine seqDone (by kernel_rfl) ?_
            have HB8 := Lib.hid hS.2.2.2.2.kept
            clear hS HO7 HB7 HSW
            go_wp2_with fail
            go_ret2
            exact ⟨v8, _, by rw [HE.out]; rfl, by rw [tblM_map, List.map_append]; exact HV.out.symm, HL8.out, fun y hy W h1 h2 => inNew h1 h2 y (tblM_sub hy), HB8.out⟩
      · rw [hch] at k30 HAE
        clear hch
        cases t6
        · skip
          cases t1
          · by_cases hd : room ≤ (l.length : Int)
            · skip
              have HR := Lib.hid (show applyE (l.map (·.u)) m.u room = 3 by rw [HAE.out, dT hd]; rfl)
              go_wp2_with fail
              go_ret2
              exact RaO.no HR.out (by decide) HS.out.2.2.2.2.kept
            · skip
              have HE := Lib.hid (show applyE (l.map (·.u)) m.u room = 0 by rw [HAE.out, dF (show ¬ room ≤ (l.length : Int) from hd)]; rfl)
              have HV := Lib.hid (HAL.out HE.out)
              go_upto_region 18 with fail
              refine wp_region_held_drew (S := AddS w (.slice p l.length cap) l m Bn) (by kernel_rfl) (AddS.below (Below.refl _ _).drew HS.out) (fun hS => ?_)
              have HSW := Lib.hid hS
              clear HS k30 HAE HAL
              generalize wr.drew = W at *
              refine seqRead 1 (v := _) rfl (by kernel_rfl) (by kernel_rfl) (by kernel_rfl) (fun _ _ _ h => h) rfl (fun w hSw => by go_simp <;> with_reducible rfl) hS ?_
              try simp only [Act.put, List.setIfInBounds_toArray, List.set_cons_zero, List.set_cons_succ]
              refine seqRead 3 (v := _) rfl (by kernel_rfl) (by kernel_rfl) (by kernel_rfl) (fun _ _ _ h => h) rfl (fun w hSw => execRow0 rfl _ rfl hSw.2.2.2.1 Tryz.underlying88 rfl infoR) hS ?_
              try simp only [Act.put, List.setIfInBounds_toArray, List.set_cons_zero, List.set_cons_succ]
              refine seqActs2 0 4 rfl rfl (by kernel_rfl) rfl (fun K hK => ?_) rfl (fun K hK => ?_)
              · refine kbuildNoneWp KR okR rfl ?_
                have HO := Lib.hid (KOwns.built (K := KR) W W.heap.size (Nat.le_refl _))
                have HB0 := Lib.hid (below1 W (.cells #[] KR.T))
                refine hK.out _ _ (AddS.below (below1 _ _) hS) (fun hS => ?_)
                clear hK K
                try simp only [Act.put, List.setIfInBounds_toArray, List.set_cons_zero, List.set_cons_succ]
                refine seqActs2 2 4 rfl rfl (by kernel_rfl) rfl (fun K hK => ?_) rfl (fun K hK => ?_)
                · refine kappendWp KR okR (.tmp 82) (.tmp 83) rfl W.heap.size _ [] l rfl HO.out _ rfl hS.1.1 HB0.out.size (by simp; omega) (fun v5 w5 ho5 hg5 => ?_)
                  have HB5 := Lib.hid (kbelowOwn HB0.out HO.out (Nat.le_refl _) hg5)
                  have HO5 := Lib.hid ho5
                  have S5 := AddS.below HB5.out HSW.out
                  clear ho5 hg5 HO HB0
                  refine hK.out _ _ S5 (fun hS => ?_)
                  clear hK K S5
                  try simp only [Act.put, List.setIfInBounds_toArray, List.set_cons_zero, List.set_cons_succ]
                  refine seqCall 4 rfl (by kernel_rfl) rfl (fun K hK => ?_)
                  refine kbuildOneWp KR okR #[Value.int IntKind.u64 0, Value.int IntKind.u64 0, Value.int IntKind.u64 0, Value.int IntKind.u64 0, Value.int IntKind.u64 0, Value.int IntKind.u64 0, Value.int IntKind.u64 0, Value.int IntKind.u64 0, Value.int IntKind.u64 0, Value.int IntKind.u64 0, Value.int IntKind.u64 0, Value.int IntKind.u64 0, Value.int IntKind.u64 0, Value.int IntKind.u64 0, Value.int IntKind.u64 0, Value.int IntKind.u64 0, Value.int IntKind.u64 0, Value.int IntKind.u64 0, Value.int IntKind.u64 0, Value.int IntKind.u64 0, Value.int IntKind.u64 0, Value.int IntKind.u64 0, Value.int IntKind.u64 0, Value.int IntKind.u64 0, Value.int IntKind.i64 0, Value.slice none 0 0, Value.int IntKind.i64 0, Value.int IntKind.i64 0, Value.int IntKind.i64 0, Value.int IntKind.i64 0, Value.int IntKind.i64 0, Value.int IntKind.i64 0] zeroR (.tmp 85) rfl (rca (newR m)) rfl (by decide) (fillOne (newR m)) ?_
                  have RX := Lib.hid (Blk.new w5 (rca (newR m)) KR.T)
                  have HO6 := Lib.hid (HO5.out.below (below1 w5 (.cells (rca (newR m)) KR.T)))
                  have HB6 := Lib.hid (HB5.out.trans ((below1 w5 (.cells (rca (newR m)) KR.T)).mono HB5.out.size))
                  clear HO5 HB5
                  refine hK.out _ _ (AddS.below (below1 _ _) hS) (fun hS => ?_)
                  clear hK K
                  try simp only [Act.put, List.setIfInBounds_toArray, List.set_cons_zero, List.set_cons_succ]
                  refine seqCall 5 rfl (by kernel_rfl) rfl (fun K hK => ?_)
                  refine kappendWp KR okR (.tmp 84) (.tmp 86) rfl W.heap.size v5 ([] ++ l) [newR m] rfl HO6.out _ rfl (Blk.klies (l := [newR m]) RX.out okR (by simp [Kd.flat, rca])) HB6.out.size (by simp; omega) (fun v7 w7 ho7 hg7 => ?_)
                  have HB7 := Lib.hid (kbelowOwn HB6.out HO6.out (Nat.le_refl _) hg7)
                  have HO7 := Lib.hid (show KLies KR v7 (l ++ [newR m]) w7 by have := ho7.lies okR; simpa using this)
                  have S7 := AddS.below HB7.out HSW.out
                  clear ho7 hg7 HO6 HB6 RX
                  refine hK.out _ _ S7 (fun hS => ?_)
                  clear hK K S7
                  try simp only [Act.put, List.setIfInBounds_toArray, List.set_cons_zero, List.set_cons_succ]
                  refine seqCall 6 rfl (by kernel_rfl) rfl (fun K hK => ?_)
                  go_simp
                  refine (rrsort_any v7 (l ++ [newR m]) (by simp; omega) HWN.out w7 ⟨HO7.out, inNew hS.1.2 hS.2.1⟩ hS.2.2.2.2.tab hS.2.2.2.2.lt).mono ?_
                  rintro e w8 ⟨v8, rfl, hl8, hw8⟩
                  have HL8 := Lib.hid (show KOwns KR w.heap.size v8 (tblM (l ++ [newR m])) w8 from hl8.mono hS.2.2.2.2.kept.size)
                  refine hK.out _ _ (AddS.below hw8 hS) (fun hS => ?_)
                  clear hK K hl8 hw8
                  try simp only [Act.put, List.setIfInBounds_toArray, List.set_cons_zero, List.set_cons_succ]
                  refine seqRead 7 (v := _) rfl (by kernel_rfl) (by kernel_rfl) (by kernel_rfl) (fun _ _ _ h => h) rfl (fun w hSw => by go_simp <;> with_reducible rfl) hS ?_
                  try simp only [Act.put, List.setIfInBounds_toArray, List.set_cons_zero, List.set_cons_succ]
                  refine seqRead 8 (v := _) rfl (by kernel_rfl) (by kernel_rfl) (by kernel_rfl) (fun _ _ _ h => h) rfl (fun w hSw => by go_simp <;> with_reducible rfl) hS ?_
                  try simp only [Act.put, List.setIfInBounds_toArray, List.set_cons_zero, List.set_cons_succ]
                  refine seqDone (by kernel_rfl) ?_
                  have HB8 := Lib.hid hS.2.2.2.2.kept
                  clear hS HO7 HB7 HSW
                  go_wp2_with fail
                  go_ret2
                  exact ⟨v8, _, by rw [HE.out]; rfl, by rw [tblM_map, List.map_append]; exact HV.out.symm, HL8.out, fun y hy W h1 h2 => inNew h1 h2 y (tblM_sub hy), HB8.out⟩
                · refine kbuildOneWp KR okR #[Value.int IntKind.u64 0, Value.int IntKind.u64 0, Value.int IntKind.u64 0, Value.int IntKind.u64 0, Value.int IntKind.u64 0, Value.int IntKind.u64 0, Value.int IntKind.u64 0, Value.int IntKind.u64 0, Value.int IntKind.u64 0, Value.int IntKind.u64 0, Value.int IntKind.u64 0, Value.int IntKind.u64 0, Value.int IntKind.u64 0, Value.int IntKind.u64 0, Value.int IntKind.u64 0, Value.int IntKind.u64 0, Value.int IntKind.u64 0, Value.int IntKind.u64 0, Value.int IntKind.u64 0, Value.int IntKind.u64 0, Value.int IntKind.u64 0, Value.int IntKind.u64 0, Value.int IntKind.u64 0, Value.int IntKind.u64 0, Value.int IntKind.i64 0, Value.slice none 0 0, Value.int IntKind.i64 0, Value.int IntKind.i64 0, Value.int IntKind.i64 0, Value.int IntKind.i64 0, Value.int IntKind.i64 0, Value.int IntKind.i64 0] zeroR (.tmp 85) rfl (rca (newR m)) rfl (by decide) (fillOne (newR m)) ?_
                  have RX1 := Lib.hid (Blk.new (W.alloc (.cells #[] KR.T)) (rca (newR m)) KR.T)
                  have HO1 := Lib.hid (HO.out.below (below1 (W.alloc (.cells #[] KR.T)) (.cells (rca (newR m)) KR.T)))
                  have HB1 := Lib.hid (HB0.out.trans ((below1 (W.alloc (.cells #[] KR.T)) (.cells (rca (newR m)) KR.T)).mono HB0.out.size))
                  have hne : (W.alloc (.cells #[] KR.T)).heap.size ≠ W.heap.size := by have := (Blk.new W #[] KR.T).lt; omega
                  clear HO HB0
                  refine hK.out _ _ (AddS.below (below1 _ _) hS) (fun hS => ?_)
                  clear hK K
                  try simp only [Act.put, List.setIfInBounds_toArray, List.set_cons_zero, List.set_cons_succ]
                  refine seqCall 2 rfl (by kernel_rfl) rfl (fun K hK => ?_)
                  refine kappendWp KR okR (.tmp 82) (.tmp 83) rfl W.heap.size _ [] l rfl HO1.out _ rfl hS.1.1 HB1.out.size (by simp; omega) (fun v5 w5 ho5 hg5 => ?_)
                  have HB5 := Lib.hid (kbelowOwn HB1.out HO1.out (Nat.le_refl _) hg5)
                  have HO5 := Lib.hid ho5
                  have RX5 := Lib.hid (show Blk _ (rca (newR m)) KR.T w5 from (hg5.block _ RX1.out.lt (fun e => hne (by injection e))).trans RX1.out)
                  clear RX1 hne
                  have S5 := AddS.below HB5.out HSW.out
                  clear ho5 hg5 HO1 HB1
                  refine hK.out _ _ S5 (fun hS => ?_)
                  clear hK K S5
                  try simp only [Act.put, List.setIfInBounds_toArray, List.set_cons_zero, List.set_cons_succ]
                  refine seqCall 5 rfl (by kernel_rfl) rfl (fun K hK => ?_)
                  refine kappendWp KR okR (.tmp 84) (.tmp 86) rfl W.heap.size v5 ([] ++ l) [newR m] rfl HO5.out _ rfl (Blk.klies (l := [newR m]) RX5.out okR (by simp [Kd.flat, rca])) HB5.out.size (by simp; omega) (fun v7 w7 ho7 hg7 => ?_)
                  have HB7 := Lib.hid (kbelowOwn HB5.out HO5.out (Nat.le_refl _) hg7)
                  have HO7 := Lib.hid (show KLies KR v7 (l ++ [newR m]) w7 by have := ho7.lies okR; simpa using this)
                  have S7 := AddS.below HB7.out HSW.out
                  clear ho7 hg7 HO5 HB5 RX5
                  refine hK.out _ _ S7 (fun hS => ?_)
                  clear hK K S7
                  try simp only [Act.put, List.setIfInBounds_toArray, List.set_cons_zero, List.set_cons_succ]
                  refine seqCall 6 rfl (by kernel_rfl) rfl (fun K hK => ?_)
                  go_simp
                  refine (rrsort_any v7 (l ++ [newR m]) (by simp; omega) HWN.out w7 ⟨HO7.out, inNew hS.1.2 hS.2.1⟩ hS.2.2.2.2.tab hS.2.2.2.2.lt).mono ?_
                  rintro e w8 ⟨v8, rfl, hl8, hw8⟩
                  have HL8 := Lib.hid (show KOwns KR w.heap.size v8 (tblM (l ++ [newR m])) w8 from hl8.mono hS.2.2.2.2.kept.size)
                  refine hK.out _ _ (AddS.below hw8 hS) (fun hS => ?_)
                  clear hK K hl8 hw8
                  try simp only [Act.put, List.setIfInBounds_toArray, List.set_cons_zero, List.set_cons_succ]
                  refine seqRead 7 (v := _) rfl (by kernel_rfl) (by kernel_rfl) (by kernel_rfl) (fun _ _ _ h => h) rfl (fun w hSw => by go_simp <;> with_reducible rfl) hS ?_
                  try simp only [Act.put, List.setIfInBounds_toArray, List.set_cons_zero, List.set_cons_succ]
                  refine seqRead 8 (v := _) rfl (by kernel_rfl) (by kernel_rfl) (by kernel_rfl) (fun _ _ _ h => h) rfl (fun w hSw => by go_simp <;> with_reducible rfl) hS ?_
                  try simp only [Act.put, List.setIfInBounds_toArray, List.set_cons_zero, List.set_cons_succ]
                  refine seqDone (by kernel_rfl) ?_
                  have HB8 := Lib.hid hS.2.2.2.2.kept
                  clear hS HO7 HB7 HSW
                  go_wp2_with fail
                  go_ret2
                  exact ⟨v8, _, by rw [HE.out]; rfl, by rw [tblM_map, List.map_append]; exact HV.out.symm, HL8.out, fun y hy W h1 h2 => inNew h1 h2 y (tblM_sub hy), HB8.out⟩
              · refine kbuildOneWp KR okR #[Value.int IntKind.u64 0, Value.int IntKind.u64 0, Value.int IntKind.u64 0, Value.int IntKind.u64 0, Value.int IntKind.u64 0, Value.int IntKind.u64 0, Value.int IntKind.u64 0, Value.int IntKind.u64 0, Value.int IntKind.u64 0, Value.int IntKind.u64 0, Value.int IntKind.u64 0, Value.int IntKind.u64 0, Value.int IntKind.u64 0, Value.int IntKind.u64 0, Value.int IntKind.u64 0, Value.int IntKind.u64 0, Value.int IntKind.u64 0, Value.int IntKind.u64 0, Value.int IntKind.u64 0, Value.int IntKind.u64 0, Value.int IntKind.u64 0, Value.int IntKind.u64 0, Value.int IntKind.u64 0, Value.int IntKind.u64 0, Value.int IntKind.i64 0, Value.slice none 0 0, Value.int IntKind.i64 0, Value.int IntKind.i64 0, Value.int IntKind.i64 0, Value.int IntKind.i64 0, Value.int IntKind.i64 0, Value.int IntKind.i64 0] zeroR (.tmp 85) rfl (rca (newR m)) rfl (by decide) (fillOne (newR m)) ?_
                have RX := Lib.hid (Blk.new W (rca (newR m)) KR.T)
                refine hK.out _ _ (AddS.below (below1 _ _) hS) (fun hS => ?_)
                clear hK K
                try simp only [Act.put, List.setIfInBounds_toArray, List.set_cons_zero, List.set_cons_succ]
                refine seqCall 0 rfl (by kernel_rfl) rfl (fun K hK => ?_)
                refine kbuildNoneWp KR okR rfl ?_
                have HO := Lib.hid (KOwns.built (K := KR) (W.alloc (.cells (rca (newR m)) KR.T)) W.heap.size (below1 W (.cells (rca (newR m)) KR.T)).size)
                have HB0 := Lib.hid ((below1 W (.cells (rca (newR m)) KR.T)).trans ((below1 (W.alloc (.cells (rca (newR m)) KR.T)) (.cells #[] KR.T)).mono (below1 W (.cells (rca (newR m)) KR.T)).size))
                have RX1 := Lib.hid (RX.out.old (.cells #[] KR.T))
                have hne : W.heap.size ≠ (W.alloc (.cells (rca (newR m)) KR.T)).heap.size := by have := RX.out.lt; omega
                clear RX
                refine hK.out _ _ (AddS.below (below1 _ _) hS) (fun hS => ?_)
                clear hK K
                try simp only [Act.put, List.setIfInBounds_toArray, List.set_cons_zero, List.set_cons_succ]
                refine seqCall 2 rfl (by kernel_rfl) rfl (fun K hK => ?_)
                refine kappendWp KR okR (.tmp 82) (.tmp 83) rfl W.heap.size _ [] l rfl HO.out _ rfl hS.1.1 HB0.out.size (by simp; omega) (fun v5 w5 ho5 hg5 => ?_)
                have HB5 := Lib.hid (kbelowOwn HB0.out HO.out (Nat.le_refl _) hg5)
                have HO5 := Lib.hid ho5
                have RX5 := Lib.hid (show Blk _ (rca (newR m)) KR.T w5 from (hg5.block _ RX1.out.lt (fun e => hne (by injection e))).trans RX1.out)
                clear RX1 hne
                have S5 := AddS.below HB5.out HSW.out
                clear ho5 hg5 HO HB0
                refine hK.out _ _ S5 (fun hS => ?_)
                clear hK K S5
                try simp only [Act.put, List.setIfInBounds_toArray, List.set_cons_zero, List.set_cons_succ]
                refine seqCall 5 rfl (by kernel_rfl) rfl (fun K hK => ?_)
                refine kappendWp KR okR (.tmp 84) (.tmp 86) rfl W.heap.size v5 ([] ++ l) [newR m] rfl HO5.out _ rfl (Blk.klies (l := [newR m]) RX5.out okR (by simp [Kd.flat, rca])) HB5.out.size (by simp; omega) (fun v7 w7 ho7 hg7 => ?_)
                have HB7 := Lib.hid (kbelowOwn HB5.out HO5.out (Nat.le_refl _) hg7)
                have HO7 := Lib.hid (show KLies KR v7 (l ++ [newR m]) w7 by have := ho7.lies okR; simpa using this)
                have S7 := AddS.below HB7.out HSW.out
                clear ho7 hg7 HO5 HB5 RX5
                refine hK.out _ _ S7 (fun hS => ?_)
                clear hK K S7
                try simp only [Act.put, List.setIfInBounds_toArray, List.set_cons_zero, List.set_cons_succ]
                refine seqCall 6 rfl (by kernel_rfl) rfl (fun K hK => ?_)
                go_simp
                refine (rrsort_any v7 (l ++ [newR m]) (by simp; omega) HWN.out w7 ⟨HO7.out, inNew hS.1.2 hS.2.1⟩ hS.2.2.2.2.tab hS.2.2.2.2.lt).mono ?_
                rintro e w8 ⟨v8, rfl, hl8, hw8⟩
                have HL8 := Lib.hid (show KOwns KR w.heap.size v8 (tblM (l ++ [newR m])) w8 from hl8.mono hS.2.2.2.2.kept.size)
                refine hK.out _ _ (AddS.below hw8 hS) (fun hS => ?_)
                clear hK K hl8 hw8
                try simp only [Act.put, List.setIfInBounds_toArray, List.set_cons_zero, List.set_cons_succ]
                refine seqRead 7 (v := _) rfl (by kernel_rfl) (by kernel_rfl) (by kernel_rfl) (fun _ _ _ h => h) rfl (fun w hSw => by go_simp <;> with_reducible rfl) hS ?_
                try simp only [Act.put, List.setIfInBounds_toArray, List.set_cons_zero, List.set_cons_succ]
                refine seqRead 8 (v := _) rfl (by kernel_rfl) (by kernel_rfl) (by kernel_rfl) (fun _ _ _ h => h) rfl (fun w hSw => by go_simp <;> with_reducible rfl) hS ?_
                try simp only [Act.put, List.setIfInBounds_toArray, List.set_cons_zero, List.set_cons_succ]
                refine seqDone (by kernel_rfl) ?_
                have HB8 := Lib.hid hS.2.2.2.2.kept
                clear hS HO7 HB7 HSW
                go_wp2_with fail
                go_ret2
                exact ⟨v8, _, by rw [HE.out]; rfl, by rw [tblM_map, List.map_append]; exact HV.out.symm, HL8.out, fun y hy W h1 h2 => inNew h1 h2 y (tblM_sub hy), HB8.out⟩
          · skip
            have HE := Lib.hid (show applyE (l.map (·.u)) m.u room = 0 by rw [HAE.out]; rfl)
            have HV := Lib.hid (HAL.out HE.out)
            go_upto_region 18 with fail
            refine wp_region_held_drew (S := AddS w (.slice p l.length cap) l m Bn) (by kernel_rfl) (AddS.below (Below.refl _ _).drew HS.out) (fun hS => ?_)
            have HSW := Lib.hid hS
            clear HS k30 HAE HAL
            generalize wr.drew = W at *
            refine seqRead 1 (v := _) rfl (by kernel_rfl) (by kernel_rfl) (by kernel_rfl) (fun _ _ _ h => h) rfl (fun w hSw => by go_simp <;> with_reducible rfl) hS ?_
            try simp only [Act.put, List.setIfInBounds_toArray, List.set_cons_zero, List.set_cons_succ]
            refine seqRead 3 (v := _) rfl (by kernel_rfl) (by kernel_rfl) (by kernel_rfl) (fun _ _ _ h => h) rfl (fun w hSw => execRow0 rfl _ rfl hSw.2.2.2.1 Tryz.underlying88 rfl infoR) hS ?_
            try simp only [Act.put, List.setIfInBounds_toArray, List.set_cons_zero, List.set_cons_succ]
            refine seqActs2 0 4 rfl rfl (by kernel_rfl) rfl (fun K hK => ?_) rfl (fun K hK => ?_)
            · refine kbuildNoneWp KR okR rfl ?_
              have HO := Lib.hid (KOwns.built (K := KR) W W.heap.size (Nat.le_refl _))
              have HB0 := Lib.hid (below1 W (.cells #[] KR.T))
              refine hK.out _ _ (AddS.below (below1 _ _) hS) (fun hS => ?_)
              clear hK K
              try simp only [Act.put, List.setIfInBounds_toArray, List.set_cons_zero, List.set_cons_succ]
              refine seqActs2 2 4 rfl rfl (by kernel_rfl) rfl (fun K hK => ?_) rfl (fun K hK => ?_)
              · refine kappendWp KR okR (.tmp 82) (.tmp 83) rfl W.heap.size _ [] l rfl HO.out _ rfl hS.1.1 HB0.out.size (by simp; omega) (fun v5 w5 ho5 hg5 => ?_)
                have HB5 := Lib.hid (kbelowOwn HB0.out HO.out (Nat.le_refl _) hg5)
                have HO5 := Lib.hid ho5
                have S5 := AddS.below HB5.out HSW.out
                clear ho5 hg5 HO HB0
                refine hK.out _ _ S5 (fun hS => ?_)
                clear hK K S5
                try simp only [Act.put, List.setIfInBounds_toArray, List.set_cons_zero, List.set_cons_succ]
                refine seqCall 4 rfl (by kernel_rfl) rfl (fun K hK => ?_)
                refine kbuildOneWp KR okR #[Value.int IntKind.u64 0, Value.int IntKind.u64 0, Value.int IntKind.u64 0, Value.int IntKind.u64 0, Value.int IntKind.u64 0, Value.int IntKind.u64 0, Value.int IntKind.u64 0, Value.int IntKind.u64 0, Value.int IntKind.u64 0, Value.int IntKind.u64 0, Value.int IntKind.u64 0, Value.int IntKind.u64 0, Value.int IntKind.u64 0, Value.int IntKind.u64 0, Value.int IntKind.u64 0, Value.int IntKind.u64 0, Value.int IntKind.u64 0, Value.int IntKind.u64 0, Value.int IntKind.u64 0, Value.int IntKind.u64 0, Value.int IntKind.u64 0, Value.int IntKind.u64 0, Value.int IntKind.u64 0, Value.int IntKind.u64 0, Value.int IntKind.i64 0, Value.slice none 0 0, Value.int IntKind.i64 0, Value.int IntKind.i64 0, Value.int IntKind.i64 0, Value.int IntKind.i64 0, Value.int IntKind.i64 0, Value.int IntKind.i64 0] zeroR (.tmp 85) rfl (rca (newR m)) rfl (by decide) (fillOne (newR m)) ?_
                have RX := Lib.hid (Blk.new w5 (rca (newR m)) KR.T)
                have HO6 := Lib.hid (HO5.out.below (below1 w5 (.cells (rca (newR m)) KR.T)))
                have HB6 := Lib.hid (HB5.out.trans ((below1 w5 (.cells (rca (newR m)) KR.T)).mono HB5.out.size))
                clear HO5 HB5
                refine hK.out _ _ (AddS.below (below1 _ _) hS) (fun hS => ?_)
                clear hK K
                try simp only [Act.put, List.setIfInBounds_toArray, List.set_cons_zero, List.set_cons_succ]
                refine seqCall 5 rfl (by kernel_rfl) rfl (fun K hK => ?_)
                refine kappendWp KR okR (.tmp 84) (.tmp 86) rfl W.heap.size v5 ([] ++ l) [newR m] rfl HO6.out _ rfl (Blk.klies (l := [newR m]) RX.out okR (by simp [Kd.flat, rca])) HB6.out.size (by simp; omega) (fun v7 w7 ho7 hg7 => ?_)
                have HB7 := Lib.hid (kbelowOwn HB6.out HO6.out (Nat.le_refl _) hg7)
                have HO7 := Lib.hid (show KLies KR v7 (l ++ [newR m]) w7 by have := ho7.lies okR; simpa using this)
                have S7 := AddS.below HB7.out HSW.out
                clear ho7 hg7 HO6 HB6 RX
                refine hK.out _ _ S7 (fun hS => ?_)
                clear hK K S7
                try simp only [Act.put, List.setIfInBounds_toArray, List.set_cons_zero, List.set_cons_succ]
                refine seqCall 6 rfl (by kernel_rfl) rfl (fun K hK => ?_)
                go_simp
                refine (rrsort_any v7 (l ++ [newR m]) (by simp; omega) HWN.out w7 ⟨HO7.out, inNew hS.1.2 hS.2.1⟩ hS.2.2.2.2.tab hS.2.2.2.2.lt).mono ?_
                rintro e w8 ⟨v8, rfl, hl8, hw8⟩
                have HL8 := Lib.hid (show KOwns KR w.heap.size v8 (tblM (l ++ [newR m])) w8 from hl8.mono hS.2.2.2.2.kept.size)
                refine hK.out _ _ (AddS.below hw8 hS) (fun hS => ?_)
                clear hK K hl8 hw8
                try simp only [Act.put, List.setIfInBounds_toArray, List.set_cons_zero, List.set_cons_succ]
                refine seqRead 7 (v := _) rfl (by kernel_rfl) (by kernel_rfl) (by kernel_rfl) (fun _ _ _ h => h) rfl (fun w hSw => by go_simp <;> with_reducible rfl) hS ?_
                try simp only [Act.put, List.setIfInBounds_toArray, List.set_cons_zero, List.set_cons_succ]
                refine seqRead 8 (v := _) rfl (by kernel_rfl) (by kernel_rfl) (by kernel_rfl) (fun _ _ _ h => h) rfl (fun w hSw => by go_simp <;> with_reducible rfl) hS ?_
                try simp only [Act.put, List.setIfInBounds_toArray, List.set_cons_zero, List.set_cons_succ]
                refine seqDone (by kernel_rfl) ?_
                have HB8 := Lib.hid hS.2.2.2.2.kept
                clear hS HO7 HB7 HSW
                go_wp2_with fail
                go_ret2
                exact ⟨v8, _, by rw [HE.out]; rfl, by rw [tblM_map, List.map_append]; exact HV.out.symm, HL8.out, fun y hy W h1 h2 => inNew h1 h2 y (tblM_sub hy), HB8.out⟩
              · refine kbuildOneWp KR okR #[Value.int IntKind.u64 0, Value.int IntKind.u64 0, Value.int IntKind.u64 0, Value.int IntKind.u64 0, Value.int IntKind.u64 0, Value.int IntKind.u64 0, Value.int IntKind.u64 0, Value.int IntKind.u64 0, Value.int IntKind.u64 0, Value.int IntKind.u64 0, Value.int IntKind.u64 0, Value.int IntKind.u64 0, Value.int IntKind.u64 0, Value.int IntKind.u64 0, Value.int IntKind.u64 0, Value.int IntKind.u64 0, Value.int IntKind.u64 0, Value.int IntKind.u64 0, Value.int IntKind.u64 0, Value.int IntKind.u64 0, Value.int IntKind.u64 0, Value.int IntKind.u64 0, Value.int IntKind.u64 0, Value.int IntKind.u64 0, Value.int IntKind.i64 0, Value.slice none 0 0, Value.int IntKind.i64 0, Value.int IntKind.i64 0, Value.int IntKind.i64 0, Value.int IntKind.i64 0, Value.int IntKind.i64 0, Value.int IntKind.i64 0] zeroR (.tmp 85) rfl (rca (newR m)) rfl (by decide) (fillOne (newR m)) ?_
                have RX1 := Lib.hid (Blk.new (W.alloc (.cells #[] KR.T)) (rca (newR m)) KR.T)
                have HO1 := Lib.hid (HO.out.below (below1 (W.alloc (.cells #[] KR.T)) (.cells (rca (newR m)) KR.T)))
                have HB1 := Lib.hid (HB0.out.trans ((below1 (W.alloc (.cells #[] KR.T)) (.cells (rca (newR m)) KR.T)).mono HB0.out.size))
                have hne : (W.alloc (.cells #[] KR.T)).heap.size ≠ W.heap.size := by have := (Blk.new W #[] KR.T).lt; omega
                clear HO HB0
                refine hK.out _ _ (AddS.below (below1 _ _) hS) (fun hS => ?_)
                clear hK K
                try simp only [Act.put, List.setIfInBounds_toArray, List.set_cons_zero, List.set_cons_succ]
                refine seqCall 2 rfl (by kernel_rfl) rfl (fun K hK => ?_)
                refine kappendWp KR okR (.tmp 82) (.tmp 83) rfl W.heap.size _ [] l rfl HO1.out _ rfl hS.1.1 HB1.out.size (by simp; omega) (fun v5 w5 ho5 hg5 => ?_)
                have HB5 := Lib.hid (kbelowOwn HB1.out HO1.out (Nat.le_refl _) hg5)
                have HO5 := Lib.hid ho5
                have RX5 := Lib.hid (show Blk _ (rca (newR m)) KR.T w5 from (hg5.block _ RX1.out.lt (fun e => hne (by injection e))).trans RX1.out)
                clear RX1 hne
                have S5 := AddS.below HB5.out HSW.out
                clear ho5 hg5 HO1 HB1
                refine hK.out _ _ S5 (fun hS => ?_)
                clear hK K S5
                try simp only [Act.put, List.setIfInBounds_toArray, List.set_cons_zero, List.set_cons_succ]
                refine seqCall 5 rfl (by kernel_rfl) rfl (fun K hK => ?_)
                refine kappendWp KR okR (.tmp 84) (.tmp 86) rfl W.heap.size v5 ([] ++ l) [newR m] rfl HO5.out _ rfl (Blk.klies (l := [newR m]) RX5.out okR (by simp [Kd.flat, rca])) HB5.out.size (by simp; omega) (fun v7 w7 ho7 hg7 => ?_)
                have HB7 := Lib.hid (kbelowOwn HB5.out HO5.out (Nat.le_refl _) hg7)
                have HO7 := Lib.hid (show KLies KR v7 (l ++ [newR m]) w7 by have := ho7.lies okR; simpa using this)
                have S7 := AddS.below HB7.out HSW.out
                clear ho7 hg7 HO5 HB5 RX5
                refine hK.out _ _ S7 (fun hS => ?_)
                clear hK K S7
                try simp only [Act.put, List.setIfInBounds_toArray, List.set_cons_zero, List.set_cons_succ]
                refine seqCall 6 rfl (by kernel_rfl) rfl (fun K hK => ?_)
                go_simp
                refine (rrsort_any v7 (l ++ [newR m]) (by simp; omega) HWN.out w7 ⟨HO7.out, inNew hS.1.2 hS.2.1⟩ hS.2.2.2.2.tab hS.2.2.2.2.lt).mono ?_
                rintro e w8 ⟨v8, rfl, hl8, hw8⟩
                have HL8 := Lib.hid (show KOwns KR w.heap.size v8 (tblM (l ++ [newR m])) w8 from hl8.mono hS.2.2.2.2.kept.size)
                refine hK.out _ _ (AddS.below hw8 hS) (fun hS => ?_)
                clear hK K hl8 hw8
                try simp only [Act.put, List.setIfInBounds_toArray, List.set_cons_zero, List.set_cons_succ]
                refine seqRead 7 (v := _) rfl (by kernel_rfl) (by kernel_rfl) (by kernel_rfl) (fun _ _ _ h => h) rfl (fun w hSw => by go_simp <;> with_reducible rfl) hS ?_
                try simp only [Act.put, List.setIfInBounds_toArray, List.set_cons_zero, List.set_cons_succ]
                refine seqRead 8 (v := _) rfl (by kernel_rfl) (by kernel_rfl) (by kernel_rfl) (fun _ _ _ h => h) rfl (fun w hSw => by go_simp <;> with_reducible rfl) hS ?_
                try simp only [Act.put, List.setIfInBounds_toArray, List.set_cons_zero, List.set_cons_succ]
                refine seqDone (by kernel_rfl) ?_
                have HB8 := Lib.hid hS.2.2.2.2.kept
                clear hS HO7 HB7 HSW
                go_wp2_with fail
                go_ret2
                exact ⟨v8, _, by rw [HE.out]; rfl, by rw [tblM_map, List.map_append]; exact HV.out.symm, HL8.out, fun y hy W h1 h2 => inNew h1 h2 y (tblM_sub hy), HB8.out⟩
            · refine kbuildOneWp KR okR #[Value.int IntKind.u64 0, Value.int IntKind.u64 0, Value.int IntKind.u64 0, Value.int IntKind.u64 0, Value.int IntKind.u64 0, Value.int IntKind.u64 0, Value.int IntKind.u64 0, Value.int IntKind.u64 0, Value.int IntKind.u64 0, Value.int IntKind.u64 0, Value.int IntKind.u64 0, Value.int IntKind.u64 0, Value.int IntKind.u64 0, Value.int IntKind.u64 0, Value.int IntKind.u64 0, Value.int IntKind.u64 0, Value.int IntKind.u64 0, Value.int IntKind.u64 0, Value.int IntKind.u64 0, Value.int IntKind.u64 0, Value.int IntKind.u64 0, Value.int IntKind.u64 0, Value.int IntKind.u64 0, Value.int IntKind.u64 0, Value.int IntKind.i64 0, Value.slice none 0 0, Value.int IntKind.i64 0, Value.int IntKind.i64 0, Value.int IntKind.i64 0, Value.int IntKind.i64 0, Value.int IntKind.i64 0, Value.int IntKind.i64 0] zeroR (.tmp 85) rfl (rca (newR m)) rfl (by decide) (fillOne (newR m)) ?_
              have RX := Lib.hid (Blk.new W (rca (newR m)) KR.T)
              refine hK.out _ _ (AddS.below (below1 _ _) hS) (fun hS => ?_)
              clear hK K
              try simp only [Act.put, List.setIfInBounds_toArray, List.set_cons_zero, List.set_cons_succ]
              refine seqCall 0 rfl (by kernel_rfl) rfl (fun K hK => ?_)
              refine kbuildNoneWp KR okR rfl ?_
              have HO := Lib.hid (KOwns.built (K := KR) (W.alloc (.cells (rca (newR m)) KR.T)) W.heap.size (below1 W (.cells (rca (newR m)) KR.T)).size)
              have HB0 := Lib.hid ((below1 W (.cells (rca (newR m)) KR.T)).trans ((below1 (W.alloc (.cells (rca (newR m)) KR.T)) (.cells #[] KR.T)).mono (below1 W (.cells (rca (newR m)) KR.T)).size))
              have RX1 := Lib.hid (RX.out.old (.cells #[] KR.T))
              have hne : W.heap.size ≠ (W.alloc (.cells (rca (newR m)) KR.T)).heap.size := by have := RX.out.lt; omega
              clear RX
              refine hK.out _ _ (AddS.below (below1 _ _) hS) (fun hS => ?_)
              clear hK K
              try simp only [Act.put, List.setIfInBounds_toArray, List.set_cons_zero, List.set_cons_succ]
              refine seqCall 2 rfl (by kernel_rfl) rfl (fun K hK => ?_)
              refine kappendWp KR okR (.tmp 82) (.tmp 83) rfl W.heap.size _ [] l rfl HO.out _ rfl hS.1.1 HB0.out.size (by simp; omega) (fun v5 w5 ho5 hg5 => ?_)
              have HB5 := Lib.hid (kbelowOwn HB0.out HO.out (Nat.le_refl _) hg5)
              have HO5 := Lib.hid ho5
              have RX5 := Lib.hid (show Blk _ (rca (newR m)) KR.T w5 from (hg5.block _ RX1.out.lt (fun e => hne (by injection e))).trans RX1.out)
              clear RX1 hne
              have S5 := AddS.below HB5.out HSW.out
              clear ho5 hg5 HO HB0
              refine hK.out _ _ S5 (fun hS => ?_)
              clear hK K S5
              try simp only [Act.put, List.setIfInBounds_toArray, List.set_cons_zero, List.set_cons_succ]
              refine seqCall 5 rfl (by kernel_rfl) rfl (fun K hK => ?_)
              refine kappendWp KR okR (.tmp 84) (.tmp 86) rfl W.heap.size v5 ([] ++ l) [newR m] rfl HO5.out _ rfl (Blk.klies (l := [newR m]) RX5.out okR (by simp [Kd.flat, rca])) HB5.out.size (by simp; omega) (fun v7 w7 ho7 hg7 => ?_)
              have HB7 := Lib.hid (kbelowOwn HB5.out HO5.out (Nat.le_refl _) hg7)
              have HO7 := Lib.hid (show KLies KR v7 (l ++ [newR m]) w7 by have := ho7.lies okR; simpa using this)
              have S7 := AddS.below HB7.out HSW.out
              clear ho7 hg7 HO5 HB5 RX5
              refine hK.out _ _ S7 (fun hS => ?_)
              clear hK K S7
              try simp only [Act.put, List.setIfInBounds_toArray, List.set_cons_zero, List.set_cons_succ]
              refine seqCall 6 rfl (by kernel_rfl) rfl (fun K hK => ?_)
              go_simp
              refine (rrsort_any v7 (l ++ [newR m]) (by simp; omega) HWN.out w7 ⟨HO7.out, inNew hS.1.2 hS.2.1⟩ hS.2.2.2.2.tab hS.2.2.2.2.lt).mono ?_
              rintro e w8 ⟨v8, rfl, hl8, hw8⟩
              have HL8 := Lib.hid (show KOwns KR w.heap.size v8 (tblM (l ++ [newR m])) w8 from hl8.mono hS.2.2.2.2.kept.size)
              refine hK.out _ _ (AddS.below hw8 hS) (fun hS => ?_)
              clear hK K hl8 hw8
              try simp only [Act.put, List.setIfInBounds_toArray, List.set_cons_zero, List.set_cons_succ]
              refine seqRead 7 (v := _) rfl (by kernel_rfl) (by kernel_rfl) (by kernel_rfl) (fun _ _ _ h => h) rfl (fun w hSw => by go_simp <;> with_reducible rfl) hS ?_
              try simp only [Act.put, List.setIfInBounds_toArray, List.set_cons_zero, List.set_cons_succ]
              refine seqRead 8 (v := _) rfl (by kernel_rfl) (by kernel_rfl) (by kernel_rfl) (fun _ _ _ h => h) rfl (fun w hSw => by go_simp <;> with_reducible rfl) hS ?_
              try simp only [Act.put, List.setIfInBounds_toArray, List.set_cons_zero, List.set_cons_succ]
              refine seqDone (by kernel_rfl) ?_
              have HB8 := Lib.hid hS.2.2.2.2.kept
              clear hS HO7 HB7 HSW
              go_wp2_with fail
              go_ret2
              exact ⟨v8, _, by rw [HE.out]; rfl, by rw [tblM_map, List.map_append]; exact HV.out.symm, HL8.out, fun y hy W h1 h2 => inNew h1 h2 y (tblM_sub hy), HB8.out⟩
        · skip
          have HR := Lib.hid (show applyE (l.map (·.u)) m.u room = 6 by rw [HAE.out]; rfl)
          go_wp2_with fail
          go_ret2
          exact RaO.no HR.out (by decide) HS.out.2.2.2.2.kept
end Go.Proofs.YtomnpfbebimpkaaGreatDoor
