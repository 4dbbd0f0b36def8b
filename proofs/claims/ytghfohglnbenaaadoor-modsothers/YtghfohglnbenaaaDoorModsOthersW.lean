/-
  The walk of the law ModsOthers.
-/
import Derived.Test.YtghfohglnbenaaaDoorModLaw
namespace Go.Proofs.YtghfohglnbenaaaDoor
open Go.RowKit

/-- the rules of other owners from a place on -/
def othF (m : Mu) (l : List Rm) (r : Nat) : List Ru := ((l.drop r).map (·.u)).filter fun u => u.owner != m.owner
section
variable {m : Mu} {l : List Rm} {r : Nat} {x : Rm}
theorem drop_at (hx : l[r]? = some x) : l.drop r = x :: l.drop (r + 1) := by
  obtain ⟨h, e⟩ := List.getElem?_eq_some_iff.1 hx
  rw [List.drop_eq_getElem_cons h, e]
theorem othF_skip (hx : l[r]? = some x) (h : x.u.owner = m.owner) : othF m l (r + 1) = othF m l r := by
  unfold othF
  rw [drop_at hx, List.map_cons, List.filter_cons, if_neg (by simp [h])]
theorem othF_take (hx : l[r]? = some x) (h : x.u.owner ≠ m.owner) : othF m l r = x.u :: othF m l (r + 1) := by
  unfold othF
  rw [drop_at hx, List.map_cons, List.filter_cons, if_pos (by simpa using h)]
theorem othF_end (h : l.length ≤ r) : othF m l r = [] := by
  unfold othF
  rw [List.drop_of_length_le h]
  rfl
end
/-- the list, the change, and what Apply made -/
def OtS (w0 : World) (v : Value) (l : List Rm) (m : Mm) (v1 : Value) (L : List Rm) (W : World) : Prop := ApS w0 v l m W ∧ RLies v1 L W
theorem OtS.below {w0 : World} {v v1 : Value} {l L : List Rm} {m : Mm} {W W' : World} (hb : Below W.heap.size W W') (h : OtS w0 v l m v1 L W) : OtS w0 v l m v1 L W' := ⟨ApS.below hb h.1, h.2.below hb⟩
set_option maxRecDepth 100000 in
set_option maxHeartbeats 2000000 in
theorem modsOthers_any (v : Value) (l : List Rm) (hw : WfRL l) (hlen : l.length ≤ 140737488355328) (m : Mm) (hm : WfM m.u) (w0 : World) (hl : RLies v l w0) (ha : InM m w0) (ht : Tab w0) (hz : 0 < w0.heap.size) :
    Calls Tryd.prog 5 #[v, .agg (mca m)] w0 fun e w' => e = .returned (.bool true) ∧ Below w0.heap.size w0 w' := by
  obtain ⟨p, cap, rfl⟩ := hl.1.form
  have HS := Lib.hid (show ApS w0 (.slice p l.length cap) l m (w0.alloc (.cells (mca m) 30)) from ⟨hl.below (below1 _ _), ha.below (below1 _ _), Blk.new _ _ _, (Env.start ht hz).alloc _⟩)
  have HA := Lib.hid (fun (W : World) (hS : Env w0 W) => manswers W hS.tab hS.lt)
  have HW := Lib.hid hw
  have HM := Lib.hid hm
  have k26 := HS.out.2.2.1.cellsM.2.2.2.1
  clear ht hl hw ha hm
  by_cases hn : 50 < l.length
  · have hnI : (50 : Int) < (l.length : Int) := by omega
    go_enter Tryd.func5, Tryd.ntmps5
    go_wp2_with (go_at_call 12; refine (HA.out _ HS.out.2.2.2).mono ?_; rintro e w1 ⟨rfl, hw1⟩)
    go_ret
    exact ⟨rfl, (HS.out.2.2.2.below hw1).kept⟩
  have hnI : ¬ (50 : Int) < (l.length : Int) := by omega
  by_cases hk : 50 < m.n
  · have hkI : (50 : Int) < (m.n : Int) := by omega
    go_enter Tryd.func5, Tryd.ntmps5
    go_wp2_with (go_at_call 12; refine (HA.out _ HS.out.2.2.2).mono ?_; rintro e w1 ⟨rfl, hw1⟩)
    go_ret
    exact ⟨rfl, (HS.out.2.2.2.below hw1).kept⟩
  have hkI : ¬ (50 : Int) < (m.n : Int) := by omega
  have RM := Lib.hid HS.out.2.2.1
  by_cases he : applyE (l.map (·.u)) m.u 1000 = 0
  case neg =>
    have HP := Lib.hid (apply_at _ l (by omega) HW.out m HM.out 1000 _ HS.out.1 HS.out.2.1 HS.out.2.2.2.tab HS.out.2.2.2.lt _ rfl _ _ rfl (appV_no he))
    generalize applyE (l.map (·.u)) m.u 1000 = k at *
    have hed := eq_false0 he
    have hed2 := neq_true he
    go_enter Tryd.func5, Tryd.ntmps5
    go_upto_region 4 with (first
      | (refine wpList_load_row rfl 30 _ rfl w0.heap.size rfl 30 (mca m) (0, 0) _ RM.out Tryd.underlying30 rfl infoM ?_)
      | (go_at_call 13; refine HP.out.mono ?_; rintro e w1 ⟨v1, L1, rfl, hu1, hi1⟩; refine Hid.out ?_))
    obtain rfl : L1 = [] := by simpa using hu1
    obtain ⟨p1, cap1, rfl⟩ := hi1.lies.1.form
    have HS1 := Lib.hid (ApS.below hi1.2.2 HS.out)
    clear hi1 hu1 k26 HS HP RM
    refine Lib.hid ?_
    go_wp2_with (go_at_call 12; refine (HA.out _ HS1.out.2.2.2).mono ?_; rintro e w2 ⟨rfl, hw2⟩)
    go_ret
    exact ⟨rfl, (HS1.out.2.2.2.below hw2).kept⟩
  have HP := Lib.hid (apply_at _ l (by omega) HW.out m HM.out 1000 _ HS.out.1 HS.out.2.1 HS.out.2.2.2.tab HS.out.2.2.2.lt _ rfl 0 _ he (appV_ok he))
  have HO := Lib.hid (apply_others he)
  have HN := Lib.hid (apply_len (l.map (·.u)) m.u)
  clear he
  go_enter Tryd.func5, Tryd.ntmps5
  go_upto_region 4 with (first
    | (refine wpList_load_row rfl 30 _ rfl w0.heap.size rfl 30 (mca m) (0, 0) _ RM.out Tryd.underlying30 rfl infoM ?_)
    | (go_at_call 13; refine HP.out.mono ?_; rintro e w1 ⟨v1, L1, rfl, hu1, hi1⟩; refine Hid.out ?_))
  have hlen1 := len_app (n := 50) (by omega) hu1
  have HW1 := Lib.hid (wf_app HW.out HM.out hu1)
  have HF := Lib.hid (show othF m.u L1 0 = othF m.u l 0 by unfold othF; rw [List.drop_zero, List.drop_zero, hu1]; exact HO.out)
  rw [← hu1, List.length_map, List.length_map] at HN
  obtain ⟨p1, cap1, rfl⟩ := hi1.lies.1.form
  have HS1 := Lib.hid (show OtS w0 (.slice p l.length cap) l m (.slice p1 L1.length cap1) L1 w1 from ⟨ApS.below hi1.2.2 HS.out, hi1.lies⟩)
  clear hi1 hu1 k26 HS HP RM HO
  refine Lib.hid ?_
  go_wp2_with fail
  go_loopg [7, 8] l.length (fun k t7 t8 wr => ∃ r c : Nat, r + k = l.length ∧ t8 = .int .i64 r ∧ t7 = .int .i64 c ∧ c ≤ L1.length ∧ othF m.u L1 c = othF m.u l r ∧ OtS w0 (.slice p l.length cap) l m (.slice p1 L1.length cap1) L1 wr)
  case atStart => exact ⟨0, 0, by omega, rfl, rfl, Nat.zero_le _, HF.out, HS1.out⟩
  case round =>
    obtain ⟨r, c0, hr, rfl, rfl, hc0, hf, hs⟩ := hrel
    have HS := Lib.hid hs
    have HF0 := Lib.hid hf
    clear hs hf HS1 HF
    by_cases hlt : r < l.length
    · have hltI : (r : Int) < (l.length : Int) := by omega
      have hdI : decide ((r : Int) < (l.length : Int)) = true := decide_eq_true hltI
      obtain ⟨x, hx⟩ := lt_some hlt
      obtain ⟨b, o, rfl, _⟩ := HS.out.1.1.1.at hx
      have HX := Lib.hid hx
      clear hx
      have kO := (cellsR_mid (HS.out.1.1.1.at' HX.out)).owner
      have kM := HS.out.1.2.2.1.cellsM.2.2.2.2.2.2.1
      by_cases ho : x.u.owner = m.u.owner
      · have hod := eq_true0 ho
        have HF1 := Lib.hid (HF0.out.trans (othF_skip HX.out ho).symm)
        go_upto_region 10 with fail
        go_quiet (fail)
        have HS2 := Lib.hid (OtS.below (belowDrewN wr nq) HS.out)
        clear HS kO kM
        generalize wr.drewN nq = W2 at *
        go_wp2_with fail
        go_roundg (l.length - (r + 1))
        case measure => omega
        case rel => exact ⟨r + 1, c0, by omega, by go_num, rfl, hc0, HF1.out, HS2.out⟩
      · have hod := eq_false0 ho
        have HFT := Lib.hid (othF_take HX.out ho)
        go_upto_region 10 with fail
        go_quiet (fail)
        have HS2 := Lib.hid (OtS.below (belowDrewN wr nq) HS.out)
        clear HS kO kM
        generalize wr.drewN nq = W2 at *
        go_wp2_with fail
        go_loopg [7] (L1.length - c0) (fun kk t7 wr => ∃ c : Nat, c + kk = L1.length ∧ t7 = .int .i64 c ∧ othF m.u L1 c = othF m.u l r ∧ OtS w0 (.slice (some ⟨b, o, none⟩) l.length cap) l m (.slice p1 L1.length cap1) L1 wr)
        case atStart => exact ⟨c0, by omega, rfl, HF0.out, HS2.out⟩
        case round =>
          obtain ⟨c, hr2, rfl, hf, hs⟩ := hrel
          have HS := Lib.hid hs
          have HF := Lib.hid hf
          clear hs hf HS2 HF0
          by_cases hcl : c < L1.length
          case neg =>
            exfalso
            have := HF.out
            rw [othF_end (by omega), HFT.out] at this
            cases this
          have hclI : (c : Int) < (L1.length : Int) := by omega
          have hclN : ¬ (L1.length : Int) ≤ (c : Int) := by omega
          obtain ⟨y, hy⟩ := lt_some hcl
          obtain ⟨b1, o1, rfl, _⟩ := HS.out.2.1.at hy
          have HY := Lib.hid hy
          clear hy
          have kO := (cellsR_mid (HS.out.2.1.at' HY.out)).owner
          have kM := HS.out.1.2.2.1.cellsM.2.2.2.2.2.2.1
          by_cases hoy : y.u.owner = m.u.owner
          · have hoyd := eq_true0 hoy
            have HF1 := Lib.hid ((othF_skip HY.out hoy).trans HF.out)
            go_upto_region 11 with fail
            go_quiet (fail)
            have HS2 := Lib.hid (OtS.below (belowDrewN wr nq) HS.out)
            clear HS kO kM
            generalize wr.drewN nq = W3 at *
            go_wp2_with fail
            go_roundg (L1.length - (c + 1))
            case measure => omega
            case rel => exact ⟨c + 1, by omega, by go_num, HF1.out, HS2.out⟩
          · have hoyd := eq_false0 hoy
            have hcons := HF.out
            rw [othF_take HY.out hoy, HFT.out] at hcons
            injection hcons with hu ht
            have HF1 := Lib.hid ht
            have HC := Lib.hid (fun (W : World) (hS : OtS w0 (.slice (some ⟨b, o, none⟩) l.length cap) l m (.slice (some ⟨b1, o1, none⟩) L1.length cap1) L1 W) => requalR_any y x (by have := (HW.out.at HX.out).room; omega) W (hS.2.acts HY.out) (hS.1.1.acts HX.out))
            rw [hu, rEq_self] at HC
            clear hu ht
            go_upto_region 11 with fail
            go_quiet (fail)
            have HS2 := Lib.hid (OtS.below (belowDrewN wr nq) HS.out)
            clear HS kO kM
            generalize wr.drewN nq = W3 at *
            go_upto_region 13 with fail
            refine wp_region_held_drew (S := OtS w0 (.slice (some ⟨b, o, none⟩) l.length cap) l m (.slice (some ⟨b1, o1, none⟩) L1.length cap1) L1) (by kernel_rfl) (OtS.below (Below.refl _ _).drew HS2.out) (fun hS => ?_)
            clear HS2
            generalize W3.drew = W at *
            refine seqRead 0 (v := _) rfl (by kernel_rfl) (by kernel_rfl) (by kernel_rfl) (fun _ _ _ h => h) rfl (fun w hSw => by go_simp <;> with_reducible rfl) hS ?_
            try simp only [Act.put, List.setIfInBounds_toArray, List.set_cons_zero, List.set_cons_succ]
            refine seqRead 1 (v := _) rfl (by kernel_rfl) (by kernel_rfl) (by kernel_rfl) (fun _ _ _ h => h) rfl (fun w hSw => by go_simp <;> with_reducible rfl) hS ?_
            try simp only [Act.put, List.setIfInBounds_toArray, List.set_cons_zero, List.set_cons_succ]
            refine seqRead 2 (v := _) rfl (by kernel_rfl) (by kernel_rfl) (by kernel_rfl) (fun _ _ _ h => h) rfl (fun w hSw => by go_simp <;> with_reducible rfl) hS ?_
            try simp only [Act.put, List.setIfInBounds_toArray, List.set_cons_zero, List.set_cons_succ]
            refine seqRead 3 (v := _) rfl (by kernel_rfl) (by kernel_rfl) (by kernel_rfl) (fun _ _ _ h => h) rfl (fun w hSw => by go_simp <;> with_reducible rfl) hS ?_
            try simp only [Act.put, List.setIfInBounds_toArray, List.set_cons_zero, List.set_cons_succ]
            refine seqRead 4 (v := _) rfl (by kernel_rfl) (by kernel_rfl) (by kernel_rfl) (fun _ _ _ h => h) rfl (fun w hSw => by go_simp <;> with_reducible rfl) hS ?_
            try simp only [Act.put, List.setIfInBounds_toArray, List.set_cons_zero, List.set_cons_succ]
            refine seqRead 5 (v := _) rfl (by kernel_rfl) (by kernel_rfl) (by kernel_rfl) (fun _ _ _ h => h) rfl (fun w hSw => by go_simp <;> with_reducible rfl) hS ?_
            try simp only [Act.put, List.setIfInBounds_toArray, List.set_cons_zero, List.set_cons_succ]
            refine seqRead 6 (v := _) rfl (by kernel_rfl) (by kernel_rfl) (by kernel_rfl) (fun _ _ _ h => h) rfl (fun w hSw => by go_simp <;> with_reducible rfl) hS ?_
            try simp only [Act.put, List.setIfInBounds_toArray, List.set_cons_zero, List.set_cons_succ]
            refine seqRead 7 (v := _) rfl (by kernel_rfl) (by kernel_rfl) (by kernel_rfl) (fun _ _ _ h => h) rfl (fun w hSw => by go_simp <;> with_reducible rfl) hS ?_
            try simp only [Act.put, List.setIfInBounds_toArray, List.set_cons_zero, List.set_cons_succ]
            refine seqRead 8 (v := _) rfl (by kernel_rfl) (by kernel_rfl) (by kernel_rfl) (fun _ _ _ h => h) rfl (fun w hSw => execRow rfl b1 (o1 + c * 32) rfl (rcl y) _ (hSw.2.1.at' HY.out) Tryd.underlying44 rfl infoR) hS ?_
            try simp only [Act.put, List.setIfInBounds_toArray, List.set_cons_zero, List.set_cons_succ]
            refine seqRead 9 (v := _) rfl (by kernel_rfl) (by kernel_rfl) (by kernel_rfl) (fun _ _ _ h => h) rfl (fun w hSw => by go_simp <;> with_reducible rfl) hS ?_
            try simp only [Act.put, List.setIfInBounds_toArray, List.set_cons_zero, List.set_cons_succ]
            refine seqRead 10 (v := _) rfl (by kernel_rfl) (by kernel_rfl) (by kernel_rfl) (fun _ _ _ h => h) rfl (fun w hSw => by go_simp <;> with_reducible rfl) hS ?_
            try simp only [Act.put, List.setIfInBounds_toArray, List.set_cons_zero, List.set_cons_succ]
            refine seqRead 11 (v := _) rfl (by kernel_rfl) (by kernel_rfl) (by kernel_rfl) (fun _ _ _ h => h) rfl (fun w hSw => by go_simp <;> with_reducible rfl) hS ?_
            try simp only [Act.put, List.setIfInBounds_toArray, List.set_cons_zero, List.set_cons_succ]
            refine seqRead 12 (v := _) rfl (by kernel_rfl) (by kernel_rfl) (by kernel_rfl) (fun _ _ _ h => h) rfl (fun w hSw => execRow rfl b (o + r * 32) rfl (rcl x) _ (hSw.1.1.1.at' HX.out) Tryd.underlying44 rfl infoR) hS ?_
            try simp only [Act.put, List.setIfInBounds_toArray, List.set_cons_zero, List.set_cons_succ]
            refine seqCall 13 rfl (by kernel_rfl) rfl (fun K hK => ?_)
            go_simp
            refine (HC.out _ hS).mono ?_
            rintro e w3 ⟨rfl, hw3⟩
            refine hK.out _ _ (OtS.below hw3 hS) (fun hS => ?_)
            clear hK K hw3
            try simp only [Act.put, List.setIfInBounds_toArray, List.set_cons_zero, List.set_cons_succ]
            refine seqRead 14 (v := _) rfl (by kernel_rfl) (by kernel_rfl) (by kernel_rfl) (fun _ _ _ h => h) rfl (fun w hSw => by go_simp <;> with_reducible rfl) hS ?_
            try simp only [Act.put, List.setIfInBounds_toArray, List.set_cons_zero, List.set_cons_succ]
            refine seqRead 15 (v := _) rfl (by kernel_rfl) (by kernel_rfl) (by kernel_rfl) (fun _ _ _ h => h) rfl (fun w hSw => by go_simp <;> with_reducible rfl) hS ?_
            try simp only [Act.put, List.setIfInBounds_toArray, List.set_cons_zero, List.set_cons_succ]
            refine seqDone (by kernel_rfl) ?_
            have HS := Lib.hid hS
            clear hS
            go_wp2_with fail
            go_roundg (l.length - (r + 1))
            case measure => omega
            case rel => exact ⟨r + 1, c + 1, by omega, by go_num, by go_num, by omega, HF1.out, HS.out⟩
    · have hltI : ¬ (r : Int) < (l.length : Int) := by omega
      have h51 : (L1.length : Int) ≤ (l.length : Int) + 1 := by have := HN.out.1; omega
      go_upto_region 16 with fail
      go_wp2_with (go_at_call 12; refine (HA.out _ HS.out.1.2.2.2).mono ?_; rintro e w2 ⟨rfl, hw2⟩; refine Hid.out ?_)
      have HS2 := Lib.hid (OtS.below hw2 HS.out)
      have k0 := HS2.out.1.2.2.1.cellsM.1
      clear hw2 HS
      refine Lib.hid ?_
      by_cases hk1 : m.u.kind = 1
      · have hk1d := eq_true0 hk1
        go_wp2_with fail
        go_ret
        exact ⟨ret_bool (by simp), HS2.out.1.2.2.2.kept⟩
      · have hk1d := eq_false0 hk1
        have h50 : (L1.length : Int) ≤ (l.length : Int) := by have := HN.out.2 hk1; omega
        go_wp2_with fail
        go_ret
        exact ⟨ret_bool (by simp), HS2.out.1.2.2.2.kept⟩
end Go.Proofs.YtghfohglnbenaaaDoor
