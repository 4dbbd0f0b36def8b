/- PROVED: UnitTwo, Two transactions with nothing in common come to the same in whichever order they are committed, and if one is undone as if it had not been. Conditions: none beyond the card's own (the field table of package head is as the program's text lays it, which the card ties). -/
import Derived.Test.YtomnpfbebimpkaaGreatDoorCodArg
import Derived.Test.YtomnpfbebimpkaaGreatDoorPackUniS
import Derived.Test.YtomnpfbebimpkaaGreatDoorModRef
namespace Go.Proofs.YtomnpfbebimpkaaGreatDoor
set_option maxRecDepth 20000
open Go.RowKit

theorem dsj_of {l k : List Mm} (h : ∀ (i : Nat) x, i < l.length → l[i]? = some x → ∀ y ∈ k, metB x.u.m y.u.m = false) : Dsj (l.map (·.u)) (k.map (·.u)) := fun a ha b hb => by
  obtain ⟨x, hx, rfl⟩ := List.mem_map.1 ha
  obtain ⟨y, hy, rfl⟩ := List.mem_map.1 hb
  obtain ⟨i, hi, e⟩ := List.getElem_of_mem hx
  exact h i x hi (by rw [List.getElem?_eq_getElem hi, e]) y hy
set_option maxHeartbeats 8000000 in
set_option maxRecDepth 100000 in
theorem unitTwo_any (vl : Value) (l : List Mm) (hwl : WfML l) (_ : l.length ≤ 140737488355328) (vk : Value) (k : List Mm) (hwk : WfML k) (_ : k.length ≤ 140737488355328) (order undone : Bool) (w : World) (hl : MLies vl l w) (hk : MLies vk k w) (ht : Tab w) (hz : 0 < w.heap.size) :
    Calls Tryz.prog 8 #[vl, vk, .bool order, .bool undone] w fun e w' => e = .returned (.bool true) ∧ Below w.heap.size w w' := by
  obtain ⟨p1, c1, rfl⟩ := hl.1.form
  obtain ⟨p2, c2, rfl⟩ := hk.1.form
  have HL := Lib.hid hl
  have HK := Lib.hid hk
  have HWL := Lib.hid hwl
  have HWK := Lib.hid hwk
  have HZ := Lib.hid hz
  have HT := Lib.hid ht
  have HANS := Lib.hid (fun (W : World) (hb : Below w.heap.size w W) => answers13 W (ht.below hz hb) (Nat.lt_of_lt_of_le hz hb.size))
  obtain ⟨n1, hn1⟩ : ∃ n1, n1 = l.length := ⟨_, rfl⟩
  obtain ⟨n2, hn2⟩ : ∃ n2, n2 = k.length := ⟨_, rfl⟩
  have HN1 := Lib.hid hn1
  have HN2 := Lib.hid hn2
  rw [← hn1] at HL ⊢
  rw [← hn2] at HK ⊢
  clear hl hk hwl hwk ht hz hn1 hn2
  by_cases h1 : 8 < n1
  · have h1I : (8 : Int) < (n1 : Int) := by omega
    go_enter Tryz.func8, Tryz.ntmps8
    go_wp2_with (go_at_call 11; refine (HANS.out w (Below.refl _ _)).mono ?_; rintro e w1 ⟨rfl, hb⟩)
    go_ret
    exact ⟨rfl, hb⟩
  have h1I : ¬ (8 : Int) < (n1 : Int) := by omega
  by_cases h2 : 8 < n2
  · have h2I : (8 : Int) < (n2 : Int) := by omega
    go_enter Tryz.func8, Tryz.ntmps8
    go_wp2_with (go_at_call 11; refine (HANS.out w (Below.refl _ _)).mono ?_; rintro e w1 ⟨rfl, hb⟩)
    go_ret
    exact ⟨rfl, hb⟩
  have h2I : ¬ (8 : Int) < (n2 : Int) := by omega
  go_enter Tryz.func8, Tryz.ntmps8
  go_upto_region 4 with fail
  go_loopg [9] n1 (fun q s9 wr => ∃ r : Nat, r + q = n1 ∧ s9 = .int .i64 r ∧ (∀ (i : Nat) x, i < r → l[i]? = some x → ∀ y ∈ k, metB x.u.m y.u.m = false) ∧ Below w.heap.size w wr)
  case atStart => exact ⟨0, by omega, rfl, fun i _ hi => absurd hi (Nat.not_lt_zero _), Below.refl _ _⟩
  case round =>
    obtain ⟨r, hr, rfl, hq, hb⟩ := hrel
    have HQ := Lib.hid hq
    have HBr := Lib.hid hb
    clear hq hb
    by_cases hlt : r < n1
    · have hltI : (r : Int) < (n1 : Int) := by omega
      obtain ⟨x, hx⟩ := lt_some (l := l) (i := r) (by have := HN1.out; omega)
      obtain ⟨b1, o1, rfl, _⟩ := HL.out.1.at hx
      have HX := Lib.hid hx
      have HIX := Lib.hid (HL.out.2 x (List.mem_of_getElem? hx))
      have HWX := Lib.hid (HWL.out x (List.mem_of_getElem? hx))
      clear hx
      go_upto_region 7 with fail
      go_loopg [10] n2 (fun q s10 wr => ∃ c : Nat, c + q = n2 ∧ s10 = .int .i64 c ∧ (∀ (j : Nat) y, j < c → k[j]? = some y → metB x.u.m y.u.m = false) ∧ Below w.heap.size w wr)
      case atStart => exact ⟨0, by omega, rfl, fun i _ hi => absurd hi (Nat.not_lt_zero _), HBr.out⟩
      case round =>
        clear HBr
        obtain ⟨c, hc, rfl, hq, hb⟩ := hrel
        have HQ2 := Lib.hid hq
        have HB0 := Lib.hid hb
        clear hq hb
        by_cases hcl : c < n2
        · have hcI : (c : Int) < (n2 : Int) := by omega
          obtain ⟨y, hy⟩ := lt_some (l := k) (i := c) (by have := HN2.out; omega)
          obtain ⟨b2, o2, rfl, _⟩ := HK.out.1.at hy
          have HY := Lib.hid hy
          have HIY := Lib.hid (HK.out.2 y (List.mem_of_getElem? hy))
          have HWY := Lib.hid (HWK.out y (List.mem_of_getElem? hy))
          clear hy
          go_upto_region 9 with fail
          go_cut [12] (fun s12 W => s12 = .bool (metB x.u.m y.u.m) ∧ Below w.heap.size w W)
          case first =>
            refine wp_region_held_drew (S := Below w.heap.size w) (by kernel_rfl) HB0.out.drew (fun hS => ?_)
            clear HB0
            generalize wr.drew = V0 at *
            refine seqRead 0 (v := _) rfl (by kernel_rfl) (by kernel_rfl) (by kernel_rfl) (fun _ _ _ h => h) rfl (fun w hSw => by go_simp <;> with_reducible rfl) hS ?_
            try simp only [Act.put, List.setIfInBounds_toArray, List.set_cons_zero, List.set_cons_succ]
            refine seqRead 1 (v := _) rfl (by kernel_rfl) (by kernel_rfl) (by kernel_rfl) (fun _ _ _ h => h) rfl (fun w hSw => by go_simp <;> with_reducible rfl) hS ?_
            try simp only [Act.put, List.setIfInBounds_toArray, List.set_cons_zero, List.set_cons_succ]
            refine seqRead 2 (v := _) rfl (by kernel_rfl) (by kernel_rfl) (by kernel_rfl) (fun _ _ _ h => h) rfl (fun w hSw => by go_simp <;> with_reducible rfl) hS ?_
            try simp only [Act.put, List.setIfInBounds_toArray, List.set_cons_zero, List.set_cons_succ]
            refine seqRead 3 (v := _) rfl (by kernel_rfl) (by kernel_rfl) (by kernel_rfl) (fun _ _ _ h => h) rfl (fun w hSw => by go_simp <;> with_reducible rfl) hS ?_
            try simp only [Act.put, List.setIfInBounds_toArray, List.set_cons_zero, List.set_cons_succ]
            refine seqRead 4 (v := _) rfl (by kernel_rfl) (by kernel_rfl) (by kernel_rfl) (fun _ _ _ h => h) rfl (fun w hSw => (show (execOp _ _).run _ w = .ok (.value (.agg (cl x.u.m).toArray)) w from execRow rfl b1 (o1 + r * 31 + 1) rfl (cl x.u.m) _ (cellsM_mid ((HL.out.1.below okM hSw).at' HX.out)).mm Tryz.underlying37 rfl infoCube)) hS ?_
            try simp only [Act.put, List.setIfInBounds_toArray, List.set_cons_zero, List.set_cons_succ]
            refine seqRead 5 (v := _) rfl (by kernel_rfl) (by kernel_rfl) (by kernel_rfl) (fun _ _ _ h => h) rfl (fun w hSw => by go_simp <;> with_reducible rfl) hS ?_
            try simp only [Act.put, List.setIfInBounds_toArray, List.set_cons_zero, List.set_cons_succ]
            refine seqRead 6 (v := _) rfl (by kernel_rfl) (by kernel_rfl) (by kernel_rfl) (fun _ _ _ h => h) rfl (fun w hSw => by go_simp <;> with_reducible rfl) hS ?_
            try simp only [Act.put, List.setIfInBounds_toArray, List.set_cons_zero, List.set_cons_succ]
            refine seqRead 7 (v := _) rfl (by kernel_rfl) (by kernel_rfl) (by kernel_rfl) (fun _ _ _ h => h) rfl (fun w hSw => by go_simp <;> with_reducible rfl) hS ?_
            try simp only [Act.put, List.setIfInBounds_toArray, List.set_cons_zero, List.set_cons_succ]
            refine seqRead 8 (v := _) rfl (by kernel_rfl) (by kernel_rfl) (by kernel_rfl) (fun _ _ _ h => h) rfl (fun w hSw => by go_simp <;> with_reducible rfl) hS ?_
            try simp only [Act.put, List.setIfInBounds_toArray, List.set_cons_zero, List.set_cons_succ]
            refine seqRead 9 (v := _) rfl (by kernel_rfl) (by kernel_rfl) (by kernel_rfl) (fun _ _ _ h => h) rfl (fun w hSw => (show (execOp _ _).run _ w = .ok (.value (.agg (cl y.u.m).toArray)) w from execRow rfl b2 (o2 + c * 31 + 1) rfl (cl y.u.m) _ (cellsM_mid ((HK.out.1.below okM hSw).at' HY.out)).mm Tryz.underlying37 rfl infoCube)) hS ?_
            try simp only [Act.put, List.setIfInBounds_toArray, List.set_cons_zero, List.set_cons_succ]
            refine seqActs2 10 14 rfl rfl (by kernel_rfl) rfl (fun K hK => ?_) rfl (fun K hK => ?_)
            · go_simp
              refine (rmeet_any x.u.m y.u.m HWX.out.m HWY.out.m V0).mono ?_
              rintro e V1 ⟨rfl, hb⟩
              refine hK.out _ _ (hS.trans (hb.mono hS.size)) (fun hS => ?_)
              clear hK K hb
              try simp only [Act.put, List.setIfInBounds_toArray, List.set_cons_zero, List.set_cons_succ]
              refine seqRead 11 (v := _) rfl (by kernel_rfl) (by kernel_rfl) (by kernel_rfl) (fun _ _ _ h => h) rfl (fun w hSw => by go_simp <;> with_reducible rfl) hS ?_
              try simp only [Act.put, List.setIfInBounds_toArray, List.set_cons_zero, List.set_cons_succ]
              refine seqRead 12 (v := _) rfl (by kernel_rfl) (by kernel_rfl) (by kernel_rfl) (fun _ _ _ h => h) rfl (fun w hSw => by go_simp <;> with_reducible rfl) hS ?_
              try simp only [Act.put, List.setIfInBounds_toArray, List.set_cons_zero, List.set_cons_succ]
              refine seqRead 13 (v := _) rfl (by kernel_rfl) (by kernel_rfl) (by kernel_rfl) (fun _ _ _ h => h) rfl (fun w hSw => by go_simp <;> with_reducible rfl) hS ?_
              try simp only [Act.put, List.setIfInBounds_toArray, List.set_cons_zero, List.set_cons_succ]
              refine seqCall 14 rfl (by kernel_rfl) rfl (fun K hK => ?_)
              go_simp
              have X := Lib.hid (Blk.new V1 #[Value.int IntKind.u64 0, Value.int IntKind.u64 0, Value.int IntKind.u64 0, Value.int IntKind.u64 0, Value.int IntKind.u64 0, Value.int IntKind.u64 0, Value.int IntKind.u64 0, Value.int IntKind.u64 0, Value.int IntKind.u64 0, Value.int IntKind.u64 0, Value.int IntKind.u64 0, Value.int IntKind.u64 0, Value.int IntKind.u64 0, Value.int IntKind.u64 0, Value.int IntKind.u64 0, Value.int IntKind.u64 0, Value.int IntKind.u64 0, Value.int IntKind.u64 0, Value.int IntKind.u64 0, Value.int IntKind.u64 0, Value.int IntKind.u64 0, Value.int IntKind.u64 0, Value.int IntKind.u64 0, Value.int IntKind.u64 0] 37)
              have G := Lib.hid (show w.heap.size ≤ V1.heap.size from hS.size)
              refine hK.out _ _ (hS.trans ((below1 _ _).mono hS.size)) (fun hS => ?_)
              clear hK K
              generalize hv : V1.alloc (.cells #[Value.int IntKind.u64 0, Value.int IntKind.u64 0, Value.int IntKind.u64 0, Value.int IntKind.u64 0, Value.int IntKind.u64 0, Value.int IntKind.u64 0, Value.int IntKind.u64 0, Value.int IntKind.u64 0, Value.int IntKind.u64 0, Value.int IntKind.u64 0, Value.int IntKind.u64 0, Value.int IntKind.u64 0, Value.int IntKind.u64 0, Value.int IntKind.u64 0, Value.int IntKind.u64 0, Value.int IntKind.u64 0, Value.int IntKind.u64 0, Value.int IntKind.u64 0, Value.int IntKind.u64 0, Value.int IntKind.u64 0, Value.int IntKind.u64 0, Value.int IntKind.u64 0, Value.int IntKind.u64 0, Value.int IntKind.u64 0] 37) = V2 at *
              clear hv
              try simp only [Act.put, List.setIfInBounds_toArray, List.set_cons_zero, List.set_cons_succ]
              refine seqCall 15 rfl (by kernel_rfl) rfl (fun K hK => ?_)
              refine wp_store_row 37 _ _ rfl V1.heap.size (cc (metV x.u.m y.u.m)) rfl rfl 37 _ X.out (by kernel_rfl) rfl (cc_one _) (hK.out _ _ (below_setRow hS G.out _) (fun hS => ?_))
              clear hK K X
              generalize hv : V2.setRow V1.heap.size (cc (metV x.u.m y.u.m)) = V3 at *
              clear hv G
              try simp only [Act.put]
              refine seqRead 16 (v := _) rfl (by kernel_rfl) (by kernel_rfl) (by kernel_rfl) (fun _ _ _ h => h) rfl (fun w hSw => by go_simp <;> with_reducible rfl) hS ?_
              try simp only [Act.put, List.setIfInBounds_toArray, List.set_cons_zero, List.set_cons_succ]
              refine seqDone (by kernel_rfl) ?_
              have HB := Lib.hid hS
              clear hS
              generalize V3 = Wm at *
              go_wp2_with fail
              go_meet
              case rel => exact ⟨rfl, HB.out⟩
            · go_simp
              have X := Lib.hid (Blk.new V0 #[Value.int IntKind.u64 0, Value.int IntKind.u64 0, Value.int IntKind.u64 0, Value.int IntKind.u64 0, Value.int IntKind.u64 0, Value.int IntKind.u64 0, Value.int IntKind.u64 0, Value.int IntKind.u64 0, Value.int IntKind.u64 0, Value.int IntKind.u64 0, Value.int IntKind.u64 0, Value.int IntKind.u64 0, Value.int IntKind.u64 0, Value.int IntKind.u64 0, Value.int IntKind.u64 0, Value.int IntKind.u64 0, Value.int IntKind.u64 0, Value.int IntKind.u64 0, Value.int IntKind.u64 0, Value.int IntKind.u64 0, Value.int IntKind.u64 0, Value.int IntKind.u64 0, Value.int IntKind.u64 0, Value.int IntKind.u64 0] 37)
              have G := Lib.hid (show w.heap.size ≤ V0.heap.size from hS.size)
              refine hK.out _ _ (hS.trans ((below1 _ _).mono hS.size)) (fun hS => ?_)
              clear hK K
              generalize hv : V0.alloc (.cells #[Value.int IntKind.u64 0, Value.int IntKind.u64 0, Value.int IntKind.u64 0, Value.int IntKind.u64 0, Value.int IntKind.u64 0, Value.int IntKind.u64 0, Value.int IntKind.u64 0, Value.int IntKind.u64 0, Value.int IntKind.u64 0, Value.int IntKind.u64 0, Value.int IntKind.u64 0, Value.int IntKind.u64 0, Value.int IntKind.u64 0, Value.int IntKind.u64 0, Value.int IntKind.u64 0, Value.int IntKind.u64 0, Value.int IntKind.u64 0, Value.int IntKind.u64 0, Value.int IntKind.u64 0, Value.int IntKind.u64 0, Value.int IntKind.u64 0, Value.int IntKind.u64 0, Value.int IntKind.u64 0, Value.int IntKind.u64 0] 37) = V1 at *
              clear hv
              try simp only [Act.put, List.setIfInBounds_toArray, List.set_cons_zero, List.set_cons_succ]
              refine seqCall 10 rfl (by kernel_rfl) rfl (fun K hK => ?_)
              go_simp
              refine (rmeet_any x.u.m y.u.m HWX.out.m HWY.out.m V1).mono ?_
              rintro e V2 ⟨rfl, hb⟩
              have X := Lib.hid (X.out.below hb)
              refine hK.out _ _ (hS.trans (hb.mono hS.size)) (fun hS => ?_)
              clear hK K hb
              try simp only [Act.put, List.setIfInBounds_toArray, List.set_cons_zero, List.set_cons_succ]
              refine seqRead 11 (v := _) rfl (by kernel_rfl) (by kernel_rfl) (by kernel_rfl) (fun _ _ _ h => h) rfl (fun w hSw => by go_simp <;> with_reducible rfl) hS ?_
              try simp only [Act.put, List.setIfInBounds_toArray, List.set_cons_zero, List.set_cons_succ]
              refine seqRead 12 (v := _) rfl (by kernel_rfl) (by kernel_rfl) (by kernel_rfl) (fun _ _ _ h => h) rfl (fun w hSw => by go_simp <;> with_reducible rfl) hS ?_
              try simp only [Act.put, List.setIfInBounds_toArray, List.set_cons_zero, List.set_cons_succ]
              refine seqRead 13 (v := _) rfl (by kernel_rfl) (by kernel_rfl) (by kernel_rfl) (fun _ _ _ h => h) rfl (fun w hSw => by go_simp <;> with_reducible rfl) hS ?_
              try simp only [Act.put, List.setIfInBounds_toArray, List.set_cons_zero, List.set_cons_succ]
              refine seqCall 15 rfl (by kernel_rfl) rfl (fun K hK => ?_)
              refine wp_store_row 37 _ _ rfl V0.heap.size (cc (metV x.u.m y.u.m)) rfl rfl 37 _ X.out (by kernel_rfl) rfl (cc_one _) (hK.out _ _ (below_setRow hS G.out _) (fun hS => ?_))
              clear hK K X
              generalize hv : V2.setRow V0.heap.size (cc (metV x.u.m y.u.m)) = V3 at *
              clear hv G
              try simp only [Act.put]
              refine seqRead 16 (v := _) rfl (by kernel_rfl) (by kernel_rfl) (by kernel_rfl) (fun _ _ _ h => h) rfl (fun w hSw => by go_simp <;> with_reducible rfl) hS ?_
              try simp only [Act.put, List.setIfInBounds_toArray, List.set_cons_zero, List.set_cons_succ]
              refine seqDone (by kernel_rfl) ?_
              have HB := Lib.hid hS
              clear hS
              generalize V3 = Wm at *
              go_wp2_with fail
              go_meet
              case rel => exact ⟨rfl, HB.out⟩
          case rest =>
            obtain ⟨rfl, hb⟩ := hcut
            have HB := Lib.hid hb
            clear hb HB0
            have HMX := Lib.hid (fun (W : World) (hb : Below w.heap.size w W) => rmod_any x HWX.out W (HIX.out.below hb))
            have HMY := Lib.hid (fun (W : World) (hb : Below w.heap.size w W) => rmod_any y HWY.out W (HIY.out.below hb))
            cases hmt : metB x.u.m y.u.m
            · cases s1 : sndM x.u
              · go_wp2_with (first
                  | (have hqq := HMX; clear hqq; refine loadMidG rfl 40 _ rfl b1 (o1 + r * 31) rfl (mcl x) _ ((HL.out.1.below okM HB.out).at' HX.out) Tryz.underlying40 rfl (by rw [mcl_len]; exact infoM) ?_)
                  | (refine loadMidG rfl 40 _ rfl b2 (o2 + c * 31) rfl (mcl y) _ ((HK.out.1.below okM HB.out).at' HY.out) Tryz.underlying40 rfl (by rw [mcl_len]; exact infoM) ?_)
                  | (go_at_call 25; refine (HMX.out _ HB.out).mono ?_; rintro e wm1 ⟨rfl, hb⟩; have HB := Lib.hid (HB.out.trans (hb.mono HB.out.size)); clear hb HMX)
                  | (go_at_call 25; refine (HMY.out _ HB.out).mono ?_; rintro e wm2 ⟨rfl, hb⟩; have HB := Lib.hid (HB.out.trans (hb.mono HB.out.size)); have c1 := (cellsM_mid ((HL.out.1.below okM HB.out).at' HX.out)).sl; have c2 := (cellsM_mid ((HK.out.1.below okM HB.out).at' HY.out)).sl; clear hb HMY)
                  | (go_at_call 11; refine (HANS.out _ HB.out).mono ?_; rintro e wa ⟨rfl, hb⟩; have HB := Lib.hid (HB.out.trans (hb.mono HB.out.size)); clear hb))
                go_ret
                exact ⟨rfl, HB.out⟩
              · cases s2 : sndM y.u
                · go_wp2_with (first
                    | (have hqq := HMX; clear hqq; refine loadMidG rfl 40 _ rfl b1 (o1 + r * 31) rfl (mcl x) _ ((HL.out.1.below okM HB.out).at' HX.out) Tryz.underlying40 rfl (by rw [mcl_len]; exact infoM) ?_)
                    | (refine loadMidG rfl 40 _ rfl b2 (o2 + c * 31) rfl (mcl y) _ ((HK.out.1.below okM HB.out).at' HY.out) Tryz.underlying40 rfl (by rw [mcl_len]; exact infoM) ?_)
                    | (go_at_call 25; refine (HMX.out _ HB.out).mono ?_; rintro e wm1 ⟨rfl, hb⟩; have HB := Lib.hid (HB.out.trans (hb.mono HB.out.size)); clear hb HMX)
                    | (go_at_call 25; refine (HMY.out _ HB.out).mono ?_; rintro e wm2 ⟨rfl, hb⟩; have HB := Lib.hid (HB.out.trans (hb.mono HB.out.size)); have c1 := (cellsM_mid ((HL.out.1.below okM HB.out).at' HX.out)).sl; have c2 := (cellsM_mid ((HK.out.1.below okM HB.out).at' HY.out)).sl; clear hb HMY)
                    | (go_at_call 11; refine (HANS.out _ HB.out).mono ?_; rintro e wa ⟨rfl, hb⟩; have HB := Lib.hid (HB.out.trans (hb.mono HB.out.size)); clear hb))
                  go_ret
                  exact ⟨rfl, HB.out⟩
                · have HXN := Lib.hid (rfl : x.n = x.n)
                  by_cases a1 : (8 : Int) < (x.n : Int)
                  · go_wp2_with (first
                      | (have hqq := HMX; clear hqq; refine loadMidG rfl 40 _ rfl b1 (o1 + r * 31) rfl (mcl x) _ ((HL.out.1.below okM HB.out).at' HX.out) Tryz.underlying40 rfl (by rw [mcl_len]; exact infoM) ?_)
                      | (refine loadMidG rfl 40 _ rfl b2 (o2 + c * 31) rfl (mcl y) _ ((HK.out.1.below okM HB.out).at' HY.out) Tryz.underlying40 rfl (by rw [mcl_len]; exact infoM) ?_)
                      | (go_at_call 25; refine (HMX.out _ HB.out).mono ?_; rintro e wm1 ⟨rfl, hb⟩; have HB := Lib.hid (HB.out.trans (hb.mono HB.out.size)); clear hb HMX)
                      | (go_at_call 25; refine (HMY.out _ HB.out).mono ?_; rintro e wm2 ⟨rfl, hb⟩; have HB := Lib.hid (HB.out.trans (hb.mono HB.out.size)); have c1 := (cellsM_mid ((HL.out.1.below okM HB.out).at' HX.out)).sl; have c2 := (cellsM_mid ((HK.out.1.below okM HB.out).at' HY.out)).sl; clear hb HMY)
                      | (go_at_call 11; refine (HANS.out _ HB.out).mono ?_; rintro e wa ⟨rfl, hb⟩; have HB := Lib.hid (HB.out.trans (hb.mono HB.out.size)); clear hb))
                    go_ret
                    exact ⟨rfl, HB.out⟩
                  · by_cases a2 : (8 : Int) < (y.n : Int)
                    · go_wp2_with (first
                        | (have hqq := HMX; clear hqq; refine loadMidG rfl 40 _ rfl b1 (o1 + r * 31) rfl (mcl x) _ ((HL.out.1.below okM HB.out).at' HX.out) Tryz.underlying40 rfl (by rw [mcl_len]; exact infoM) ?_)
                        | (refine loadMidG rfl 40 _ rfl b2 (o2 + c * 31) rfl (mcl y) _ ((HK.out.1.below okM HB.out).at' HY.out) Tryz.underlying40 rfl (by rw [mcl_len]; exact infoM) ?_)
                        | (go_at_call 25; refine (HMX.out _ HB.out).mono ?_; rintro e wm1 ⟨rfl, hb⟩; have HB := Lib.hid (HB.out.trans (hb.mono HB.out.size)); clear hb HMX)
                        | (go_at_call 25; refine (HMY.out _ HB.out).mono ?_; rintro e wm2 ⟨rfl, hb⟩; have HB := Lib.hid (HB.out.trans (hb.mono HB.out.size)); have c1 := (cellsM_mid ((HL.out.1.below okM HB.out).at' HX.out)).sl; have c2 := (cellsM_mid ((HK.out.1.below okM HB.out).at' HY.out)).sl; clear hb HMY)
                        | (go_at_call 11; refine (HANS.out _ HB.out).mono ?_; rintro e wa ⟨rfl, hb⟩; have HB := Lib.hid (HB.out.trans (hb.mono HB.out.size)); clear hb))
                      go_ret
                      exact ⟨rfl, HB.out⟩
                    · go_wp2_with (first
                        | (have hqq := HMX; clear hqq; refine loadMidG rfl 40 _ rfl b1 (o1 + r * 31) rfl (mcl x) _ ((HL.out.1.below okM HB.out).at' HX.out) Tryz.underlying40 rfl (by rw [mcl_len]; exact infoM) ?_)
                        | (refine loadMidG rfl 40 _ rfl b2 (o2 + c * 31) rfl (mcl y) _ ((HK.out.1.below okM HB.out).at' HY.out) Tryz.underlying40 rfl (by rw [mcl_len]; exact infoM) ?_)
                        | (go_at_call 25; refine (HMX.out _ HB.out).mono ?_; rintro e wm1 ⟨rfl, hb⟩; have HB := Lib.hid (HB.out.trans (hb.mono HB.out.size)); clear hb HMX)
                        | (go_at_call 25; refine (HMY.out _ HB.out).mono ?_; rintro e wm2 ⟨rfl, hb⟩; have HB := Lib.hid (HB.out.trans (hb.mono HB.out.size)); have c1 := (cellsM_mid ((HL.out.1.below okM HB.out).at' HX.out)).sl; have c2 := (cellsM_mid ((HK.out.1.below okM HB.out).at' HY.out)).sl; clear hb HMY)
                        | (go_at_call 11; refine (HANS.out _ HB.out).mono ?_; rintro e wa ⟨rfl, hb⟩; have HB := Lib.hid (HB.out.trans (hb.mono HB.out.size)); clear hb))
                      go_roundg (n2 - (c + 1))
                      case measure => omega
                      case rel =>
                        refine ⟨c + 1, by omega, by go_num, fun j z hj hz => ?_, HB.out⟩
                        by_cases e : j = c
                        · subst e
                          rw [HY.out] at hz
                          rw [← Option.some.inj hz]; exact hmt
                        · exact HQ2.out j z (by omega) hz
            · go_wp2_with (first
                | (have hqq := HMX; clear hqq; refine loadMidG rfl 40 _ rfl b1 (o1 + r * 31) rfl (mcl x) _ ((HL.out.1.below okM HB.out).at' HX.out) Tryz.underlying40 rfl (by rw [mcl_len]; exact infoM) ?_)
                | (refine loadMidG rfl 40 _ rfl b2 (o2 + c * 31) rfl (mcl y) _ ((HK.out.1.below okM HB.out).at' HY.out) Tryz.underlying40 rfl (by rw [mcl_len]; exact infoM) ?_)
                | (go_at_call 25; refine (HMX.out _ HB.out).mono ?_; rintro e wm1 ⟨rfl, hb⟩; have HB := Lib.hid (HB.out.trans (hb.mono HB.out.size)); clear hb HMX)
                | (go_at_call 25; refine (HMY.out _ HB.out).mono ?_; rintro e wm2 ⟨rfl, hb⟩; have HB := Lib.hid (HB.out.trans (hb.mono HB.out.size)); have c1 := (cellsM_mid ((HL.out.1.below okM HB.out).at' HX.out)).sl; have c2 := (cellsM_mid ((HK.out.1.below okM HB.out).at' HY.out)).sl; clear hb HMY)
                | (go_at_call 11; refine (HANS.out _ HB.out).mono ?_; rintro e wa ⟨rfl, hb⟩; have HB := Lib.hid (HB.out.trans (hb.mono HB.out.size)); clear hb))
              go_ret
              exact ⟨rfl, HB.out⟩
        · have hcI : ¬ (c : Int) < (n2 : Int) := by omega
          go_wp2_with fail
          go_roundg (n1 - (r + 1))
          case measure => omega
          case rel =>
            refine ⟨r + 1, by omega, by go_num, fun i z hi hz y hy => ?_, HB0.out⟩
            by_cases e : i = r
            · subst e
              rw [HX.out] at hz
              rw [← Option.some.inj hz]
              obtain ⟨j, hj, ej⟩ := List.getElem_of_mem hy
              exact HQ2.out j y (by have := HN2.out; omega) (by rw [List.getElem?_eq_getElem hj, ej])
            · exact HQ.out i z (by omega) hz y hy
    · have hltI : ¬ (r : Int) < (n1 : Int) := by omega
      have HB0 := Lib.hid HBr.out
      have HD := Lib.hid (dsj_of (l := l) (k := k) fun i x hi hx => HQ.out i x (by have := HN1.out; omega) hx)
      have HS := Lib.hid (two_same (l := l.map (·.u)) (k := k.map (·.u)) (by rw [List.length_map]; have := HN1.out; omega) (by rw [List.length_map]; have := HN2.out; omega) (fun a ha => by obtain ⟨m, hm, rfl⟩ := List.mem_map.1 ha; exact HWL.out m hm) (fun a ha => by obtain ⟨m, hm, rfl⟩ := List.mem_map.1 ha; exact HWK.out m hm) HD.out order undone)
      have hrr : r = n1 := by omega
      clear HQ HD
      cases order <;> cases undone
      · have hU : twoU (l.map (·.u)) (k.map (·.u)) false false = takeS (takeS (sendS (sendS s32 1 (l.map (·.u))) 2 (k.map (·.u))) (endM 3 1)) (endM 3 2) := by unfold twoU; simp only [fstT, sndT, kndT, if_false, Bool.false_eq_true]
        have hV : twoV (l.map (·.u)) (k.map (·.u)) true true = takeS (sendS (takeS (sendS s32 1 (l.map (·.u))) (endM 3 1)) 2 (k.map (·.u))) (endM 3 2) := by unfold twoV; simp only [if_true]
        have HSS := Lib.hid (show (takeS (takeS (sendS (sendS s32 1 (l.map (·.u))) 2 (k.map (·.u))) (endM 3 1)) (endM 3 2)).base = (takeS (sendS (takeS (sendS s32 1 (l.map (·.u))) (endM 3 1)) 2 (k.map (·.u))) (endM 3 2)).base by rw [← hU, ← hV]; exact HS.out)
        clear hU hV HS
        have HC := Lib.hid (st_new 32 32 (by decide) w wr HB0.out (HT.out.below HZ.out HB0.out) HZ.out)
        go_upto_region 13 with (go_at_call 10; refine HC.out.mono ?_; rintro e w1 ⟨rfl, hst, _⟩; refine Hid.out ?_)
        have ST1 := Lib.hid (show Stt w wr.heap.size (nilUm wr.heap.size 32) s32 0 w1 from hst)
        clear hst HC HB0
        generalize nilUm wr.heap.size 32 = y1 at *
        generalize wr.heap.size = BU at *
        have HC := Lib.hid (st_send ST1.out 1 (.slice p1 n1 c1) l (by have := HN1.out; have := HN2.out; omega) HWL.out HL.out)
        refine Lib.hid ?_
        go_upto_region 14 with (go_at_call 28; refine HC.out.mono ?_; rintro e w2 ⟨y2, rfl, hst, hfr⟩; refine Hid.out ?_)
        have ST2 := Lib.hid hst
        clear hst hfr HC ST1
        have HC := Lib.hid (st_send ST2.out 2 (.slice p2 n2 c2) k (by have := HN1.out; have := HN2.out; omega) HWK.out HK.out)
        refine Lib.hid ?_
        go_upto_region 15 with (go_at_call 28; refine HC.out.mono ?_; rintro e w3 ⟨y3, rfl, hst, hfr⟩; refine Hid.out ?_)
        have ST3 := Lib.hid hst
        clear hst hfr HC ST2
        refine Lib.hid ?_
        go_upto_region 21 with fail
        have HC := Lib.hid (st_end ST3.out 3 1 (by have := HN1.out; have := HN2.out; omega))
        go_upto_region 22 with (first
          | (refine wpBuilt2 rfl _ _ rfl _ _ (builtEnd 3 1) rfl rfl ?_)
          | (go_at_call 19; refine HC.out.mono ?_; rintro e w4 ⟨y4, vv4, gg4, rfl, _, _, hst, hfr⟩; refine Hid.out ?_))
        have ST4 := Lib.hid hst
        clear hst hfr HC ST3
        have HC := Lib.hid (st_end ST4.out 3 2 (by have := HN1.out; have := HN2.out; omega))
        refine Lib.hid ?_
        go_upto_region 23 with (first
          | (refine wpBuilt2 rfl _ _ rfl _ _ (builtEnd 3 2) rfl rfl ?_)
          | (go_at_call 19; refine HC.out.mono ?_; rintro e w5 ⟨y5, vv5, gg5, rfl, _, _, hst, hfr⟩; refine Hid.out ?_))
        have ST5 := Lib.hid hst
        clear hst hfr HC ST4
        have HC := Lib.hid (st_base ST5.out)
        refine Lib.hid ?_
        go_upto_region 24 with (go_at_call 15; refine HC.out.mono ?_; rintro e w6 ⟨va, La, rfl, hua, hoa, hw6⟩; refine Hid.out ?_)
        have HUA := Lib.hid hua
        have HOA := Lib.hid hoa
        have HLA := Lib.hid (show La.length ≤ 9000 by have h1 := congrArg List.length hua; rw [List.length_map] at h1; have h2 := ST5.out.fit.fit.size; rw [ST5.out.un] at h2; have := ST5.out.fit.n; omega)
        have ST6 := Lib.hid (ST5.out.below hw6)
        clear hua hoa hw6 HC ST5
        obtain ⟨pa, ca, ea⟩ := HOA.out.1.form
        subst ea
        have HC := Lib.hid (st_new 32 32 (by decide) w w6 ST6.out.bel ST6.out.tab HZ.out)
        refine Lib.hid ?_
        go_upto_region 25 with (go_at_call 10; refine HC.out.mono ?_; rintro e v1 ⟨rfl, hst, hbv⟩; refine Hid.out ?_)
        have SV1 := Lib.hid (show Stt w w6.heap.size (nilUm w6.heap.size 32) s32 0 v1 from hst)
        have OA1 := Lib.hid (HOA.out.below hbv)
        clear hst HC ST6 hbv HOA
        generalize nilUm w6.heap.size 32 = x1 at *
        generalize w6.heap.size = BV at *
        have HC := Lib.hid (st_send SV1.out 1 (.slice p1 n1 c1) l (by have := HN1.out; have := HN2.out; omega) HWL.out HL.out)
        refine Lib.hid ?_
        go_upto_region 27 with (go_at_call 28; refine HC.out.mono ?_; rintro e v2 ⟨x2, rfl, hst, hfr⟩; refine Hid.out ?_)
        have SV2 := Lib.hid hst
        have OA2 := Lib.hid (OA1.out.fr hfr.fr SV1.out.uni.muts)
        clear hst hfr HC SV1 OA1
        have HC := Lib.hid (st_end SV2.out 3 1 (by have := HN1.out; have := HN2.out; omega))
        refine Lib.hid ?_
        go_upto_region 28 with (first
          | (refine wpBuilt2 rfl _ _ rfl _ _ (builtEnd 3 1) rfl rfl ?_)
          | (go_at_call 19; refine HC.out.mono ?_; rintro e v3 ⟨x3, vq3, gq3, rfl, _, _, hst, hfr⟩; refine Hid.out ?_))
        have SV3 := Lib.hid hst
        have OA3 := Lib.hid (OA2.out.fr hfr.fr SV2.out.uni.muts)
        clear hst hfr HC SV2 OA2
        have HC := Lib.hid (st_send SV3.out 2 (.slice p2 n2 c2) k (by have := HN1.out; have := HN2.out; omega) HWK.out HK.out)
        refine Lib.hid ?_
        go_upto_region 30 with (go_at_call 28; refine HC.out.mono ?_; rintro e v4 ⟨x4, rfl, hst, hfr⟩; refine Hid.out ?_)
        have SV4 := Lib.hid hst
        have OA4 := Lib.hid (OA3.out.fr hfr.fr SV3.out.uni.muts)
        clear hst hfr HC SV3 OA3
        have HC := Lib.hid (st_end SV4.out 3 2 (by have := HN1.out; have := HN2.out; omega))
        refine Lib.hid ?_
        go_upto_region 31 with (first
          | (refine wpBuilt2 rfl _ _ rfl _ _ (builtEnd 3 2) rfl rfl ?_)
          | (go_at_call 19; refine HC.out.mono ?_; rintro e v5 ⟨x5, vq5, gq5, rfl, _, _, hst, hfr⟩; refine Hid.out ?_))
        have SV5 := Lib.hid hst
        have OA5 := Lib.hid (OA4.out.fr hfr.fr SV4.out.uni.muts)
        clear hst hfr HC SV4 OA4
        have HAN := Lib.hid (HANS.out v5 SV5.out.bel)
        refine Lib.hid ?_
        go_wp2_with (first
          | (go_at_call 11; refine HAN.out.mono ?_; rintro e u1 ⟨rfl, hb⟩; have SW := Lib.hid (SV5.out.below hb); have OW := Lib.hid (OA5.out.below hb); have HCB := Lib.hid (st_base SW.out); clear hb HAN)
          | (go_at_call 15; refine HCB.out.mono ?_; rintro e u2 ⟨vb, Lb, rfl, hub, hob, hb⟩; have SX := Lib.hid (SW.out.below hb); have HSA := Lib.hid (rsame_eq _ vb La Lb (by have := HLA.out; omega) (WfUL.rl (by have h2 := SX.out.fit.fit.base; rw [SX.out.un] at h2; exact h2) hub) (by rw [HUA.out, hub]; exact HSS.out) u2 (OW.out.below hb).lies hob.lies); clear hub hob hb HCB)
          | (go_at_call 14; refine HSA.out.mono ?_; rintro e u3 ⟨rfl, hb⟩; have HBE := Lib.hid (SX.out.below hb).bel; clear hb HSA))
        go_ret
        exact ⟨rfl, HBE.out⟩
      · have hU : twoU (l.map (·.u)) (k.map (·.u)) false true = takeS (takeS (sendS (sendS s32 1 (l.map (·.u))) 2 (k.map (·.u))) (endM 3 1)) (endM 4 2) := by unfold twoU; simp only [fstT, sndT, kndT, if_true, if_false, Bool.false_eq_true]
        have hV : twoV (l.map (·.u)) (k.map (·.u)) true false = takeS (takeS (sendS s32 1 (l.map (·.u))) (endM 3 1)) (endM 3 2) := by unfold twoV; simp only [if_true, if_false, Bool.false_eq_true]
        have HSS := Lib.hid (show (takeS (takeS (sendS (sendS s32 1 (l.map (·.u))) 2 (k.map (·.u))) (endM 3 1)) (endM 4 2)).base = (takeS (takeS (sendS s32 1 (l.map (·.u))) (endM 3 1)) (endM 3 2)).base by rw [← hU, ← hV]; exact HS.out)
        clear hU hV HS
        have HC := Lib.hid (st_new 32 32 (by decide) w wr HB0.out (HT.out.below HZ.out HB0.out) HZ.out)
        go_upto_region 13 with (go_at_call 10; refine HC.out.mono ?_; rintro e w1 ⟨rfl, hst, _⟩; refine Hid.out ?_)
        have ST1 := Lib.hid (show Stt w wr.heap.size (nilUm wr.heap.size 32) s32 0 w1 from hst)
        clear hst HC HB0
        generalize nilUm wr.heap.size 32 = y1 at *
        generalize wr.heap.size = BU at *
        have HC := Lib.hid (st_send ST1.out 1 (.slice p1 n1 c1) l (by have := HN1.out; have := HN2.out; omega) HWL.out HL.out)
        refine Lib.hid ?_
        go_upto_region 14 with (go_at_call 28; refine HC.out.mono ?_; rintro e w2 ⟨y2, rfl, hst, hfr⟩; refine Hid.out ?_)
        have ST2 := Lib.hid hst
        clear hst hfr HC ST1
        have HC := Lib.hid (st_send ST2.out 2 (.slice p2 n2 c2) k (by have := HN1.out; have := HN2.out; omega) HWK.out HK.out)
        refine Lib.hid ?_
        go_upto_region 15 with (go_at_call 28; refine HC.out.mono ?_; rintro e w3 ⟨y3, rfl, hst, hfr⟩; refine Hid.out ?_)
        have ST3 := Lib.hid hst
        clear hst hfr HC ST2
        refine Lib.hid ?_
        go_upto_region 21 with fail
        have HC := Lib.hid (st_end ST3.out 3 1 (by have := HN1.out; have := HN2.out; omega))
        go_upto_region 22 with (first
          | (refine wpBuilt2 rfl _ _ rfl _ _ (builtEnd 3 1) rfl rfl ?_)
          | (go_at_call 19; refine HC.out.mono ?_; rintro e w4 ⟨y4, vv4, gg4, rfl, _, _, hst, hfr⟩; refine Hid.out ?_))
        have ST4 := Lib.hid hst
        clear hst hfr HC ST3
        have HC := Lib.hid (st_end ST4.out 4 2 (by have := HN1.out; have := HN2.out; omega))
        refine Lib.hid ?_
        go_upto_region 23 with (first
          | (refine wpBuilt2 rfl _ _ rfl _ _ (builtEnd 4 2) rfl rfl ?_)
          | (go_at_call 19; refine HC.out.mono ?_; rintro e w5 ⟨y5, vv5, gg5, rfl, _, _, hst, hfr⟩; refine Hid.out ?_))
        have ST5 := Lib.hid hst
        clear hst hfr HC ST4
        have HC := Lib.hid (st_base ST5.out)
        refine Lib.hid ?_
        go_upto_region 24 with (go_at_call 15; refine HC.out.mono ?_; rintro e w6 ⟨va, La, rfl, hua, hoa, hw6⟩; refine Hid.out ?_)
        have HUA := Lib.hid hua
        have HOA := Lib.hid hoa
        have HLA := Lib.hid (show La.length ≤ 9000 by have h1 := congrArg List.length hua; rw [List.length_map] at h1; have h2 := ST5.out.fit.fit.size; rw [ST5.out.un] at h2; have := ST5.out.fit.n; omega)
        have ST6 := Lib.hid (ST5.out.below hw6)
        clear hua hoa hw6 HC ST5
        obtain ⟨pa, ca, ea⟩ := HOA.out.1.form
        subst ea
        have HC := Lib.hid (st_new 32 32 (by decide) w w6 ST6.out.bel ST6.out.tab HZ.out)
        refine Lib.hid ?_
        go_upto_region 25 with (go_at_call 10; refine HC.out.mono ?_; rintro e v1 ⟨rfl, hst, hbv⟩; refine Hid.out ?_)
        have SV1 := Lib.hid (show Stt w w6.heap.size (nilUm w6.heap.size 32) s32 0 v1 from hst)
        have OA1 := Lib.hid (HOA.out.below hbv)
        clear hst HC ST6 hbv HOA
        generalize nilUm w6.heap.size 32 = x1 at *
        generalize w6.heap.size = BV at *
        have HC := Lib.hid (st_send SV1.out 1 (.slice p1 n1 c1) l (by have := HN1.out; have := HN2.out; omega) HWL.out HL.out)
        refine Lib.hid ?_
        go_upto_region 27 with (go_at_call 28; refine HC.out.mono ?_; rintro e v2 ⟨x2, rfl, hst, hfr⟩; refine Hid.out ?_)
        have SV2 := Lib.hid hst
        have OA2 := Lib.hid (OA1.out.fr hfr.fr SV1.out.uni.muts)
        clear hst hfr HC SV1 OA1
        have HC := Lib.hid (st_end SV2.out 3 1 (by have := HN1.out; have := HN2.out; omega))
        refine Lib.hid ?_
        go_upto_region 28 with (first
          | (refine wpBuilt2 rfl _ _ rfl _ _ (builtEnd 3 1) rfl rfl ?_)
          | (go_at_call 19; refine HC.out.mono ?_; rintro e v3 ⟨x3, vq3, gq3, rfl, _, _, hst, hfr⟩; refine Hid.out ?_))
        have SV3 := Lib.hid hst
        have OA3 := Lib.hid (OA2.out.fr hfr.fr SV2.out.uni.muts)
        clear hst hfr HC SV2 OA2
        have HC := Lib.hid (st_end SV3.out 3 2 (by have := HN1.out; have := HN2.out; omega))
        refine Lib.hid ?_
        go_upto_region 31 with (first
          | (refine wpBuilt2 rfl _ _ rfl _ _ (builtEnd 3 2) rfl rfl ?_)
          | (go_at_call 19; refine HC.out.mono ?_; rintro e v4 ⟨x4, vq4, gq4, rfl, _, _, hst, hfr⟩; refine Hid.out ?_))
        have SV4 := Lib.hid hst
        have OA4 := Lib.hid (OA3.out.fr hfr.fr SV3.out.uni.muts)
        clear hst hfr HC SV3 OA3
        have HAN := Lib.hid (HANS.out v4 SV4.out.bel)
        refine Lib.hid ?_
        go_wp2_with (first
          | (go_at_call 11; refine HAN.out.mono ?_; rintro e u1 ⟨rfl, hb⟩; have SW := Lib.hid (SV4.out.below hb); have OW := Lib.hid (OA4.out.below hb); have HCB := Lib.hid (st_base SW.out); clear hb HAN)
          | (go_at_call 15; refine HCB.out.mono ?_; rintro e u2 ⟨vb, Lb, rfl, hub, hob, hb⟩; have SX := Lib.hid (SW.out.below hb); have HSA := Lib.hid (rsame_eq _ vb La Lb (by have := HLA.out; omega) (WfUL.rl (by have h2 := SX.out.fit.fit.base; rw [SX.out.un] at h2; exact h2) hub) (by rw [HUA.out, hub]; exact HSS.out) u2 (OW.out.below hb).lies hob.lies); clear hub hob hb HCB)
          | (go_at_call 14; refine HSA.out.mono ?_; rintro e u3 ⟨rfl, hb⟩; have HBE := Lib.hid (SX.out.below hb).bel; clear hb HSA))
        go_ret
        exact ⟨rfl, HBE.out⟩
      · have hU : twoU (l.map (·.u)) (k.map (·.u)) true false = takeS (takeS (sendS (sendS s32 1 (l.map (·.u))) 2 (k.map (·.u))) (endM 3 2)) (endM 3 1) := by unfold twoU; simp only [fstT, sndT, kndT, if_true, if_false, Bool.false_eq_true]
        have hV : twoV (l.map (·.u)) (k.map (·.u)) true true = takeS (sendS (takeS (sendS s32 1 (l.map (·.u))) (endM 3 1)) 2 (k.map (·.u))) (endM 3 2) := by unfold twoV; simp only [if_true]
        have HSS := Lib.hid (show (takeS (takeS (sendS (sendS s32 1 (l.map (·.u))) 2 (k.map (·.u))) (endM 3 2)) (endM 3 1)).base = (takeS (sendS (takeS (sendS s32 1 (l.map (·.u))) (endM 3 1)) 2 (k.map (·.u))) (endM 3 2)).base by rw [← hU, ← hV]; exact HS.out)
        clear hU hV HS
        have HC := Lib.hid (st_new 32 32 (by decide) w wr HB0.out (HT.out.below HZ.out HB0.out) HZ.out)
        go_upto_region 13 with (go_at_call 10; refine HC.out.mono ?_; rintro e w1 ⟨rfl, hst, _⟩; refine Hid.out ?_)
        have ST1 := Lib.hid (show Stt w wr.heap.size (nilUm wr.heap.size 32) s32 0 w1 from hst)
        clear hst HC HB0
        generalize nilUm wr.heap.size 32 = y1 at *
        generalize wr.heap.size = BU at *
        have HC := Lib.hid (st_send ST1.out 1 (.slice p1 n1 c1) l (by have := HN1.out; have := HN2.out; omega) HWL.out HL.out)
        refine Lib.hid ?_
        go_upto_region 14 with (go_at_call 28; refine HC.out.mono ?_; rintro e w2 ⟨y2, rfl, hst, hfr⟩; refine Hid.out ?_)
        have ST2 := Lib.hid hst
        clear hst hfr HC ST1
        have HC := Lib.hid (st_send ST2.out 2 (.slice p2 n2 c2) k (by have := HN1.out; have := HN2.out; omega) HWK.out HK.out)
        refine Lib.hid ?_
        go_upto_region 15 with (go_at_call 28; refine HC.out.mono ?_; rintro e w3 ⟨y3, rfl, hst, hfr⟩; refine Hid.out ?_)
        have ST3 := Lib.hid hst
        clear hst hfr HC ST2
        refine Lib.hid ?_
        go_upto_region 21 with fail
        have HC := Lib.hid (st_end ST3.out 3 2 (by have := HN1.out; have := HN2.out; omega))
        go_upto_region 22 with (first
          | (refine wpBuilt2 rfl _ _ rfl _ _ (builtEnd 3 2) rfl rfl ?_)
          | (go_at_call 19; refine HC.out.mono ?_; rintro e w4 ⟨y4, vv4, gg4, rfl, _, _, hst, hfr⟩; refine Hid.out ?_))
        have ST4 := Lib.hid hst
        clear hst hfr HC ST3
        have HC := Lib.hid (st_end ST4.out 3 1 (by have := HN1.out; have := HN2.out; omega))
        refine Lib.hid ?_
        go_upto_region 23 with (first
          | (refine wpBuilt2 rfl _ _ rfl _ _ (builtEnd 3 1) rfl rfl ?_)
          | (go_at_call 19; refine HC.out.mono ?_; rintro e w5 ⟨y5, vv5, gg5, rfl, _, _, hst, hfr⟩; refine Hid.out ?_))
        have ST5 := Lib.hid hst
        clear hst hfr HC ST4
        have HC := Lib.hid (st_base ST5.out)
        refine Lib.hid ?_
        go_upto_region 24 with (go_at_call 15; refine HC.out.mono ?_; rintro e w6 ⟨va, La, rfl, hua, hoa, hw6⟩; refine Hid.out ?_)
        have HUA := Lib.hid hua
        have HOA := Lib.hid hoa
        have HLA := Lib.hid (show La.length ≤ 9000 by have h1 := congrArg List.length hua; rw [List.length_map] at h1; have h2 := ST5.out.fit.fit.size; rw [ST5.out.un] at h2; have := ST5.out.fit.n; omega)
        have ST6 := Lib.hid (ST5.out.below hw6)
        clear hua hoa hw6 HC ST5
        obtain ⟨pa, ca, ea⟩ := HOA.out.1.form
        subst ea
        have HC := Lib.hid (st_new 32 32 (by decide) w w6 ST6.out.bel ST6.out.tab HZ.out)
        refine Lib.hid ?_
        go_upto_region 25 with (go_at_call 10; refine HC.out.mono ?_; rintro e v1 ⟨rfl, hst, hbv⟩; refine Hid.out ?_)
        have SV1 := Lib.hid (show Stt w w6.heap.size (nilUm w6.heap.size 32) s32 0 v1 from hst)
        have OA1 := Lib.hid (HOA.out.below hbv)
        clear hst HC ST6 hbv HOA
        generalize nilUm w6.heap.size 32 = x1 at *
        generalize w6.heap.size = BV at *
        have HC := Lib.hid (st_send SV1.out 1 (.slice p1 n1 c1) l (by have := HN1.out; have := HN2.out; omega) HWL.out HL.out)
        refine Lib.hid ?_
        go_upto_region 27 with (go_at_call 28; refine HC.out.mono ?_; rintro e v2 ⟨x2, rfl, hst, hfr⟩; refine Hid.out ?_)
        have SV2 := Lib.hid hst
        have OA2 := Lib.hid (OA1.out.fr hfr.fr SV1.out.uni.muts)
        clear hst hfr HC SV1 OA1
        have HC := Lib.hid (st_end SV2.out 3 1 (by have := HN1.out; have := HN2.out; omega))
        refine Lib.hid ?_
        go_upto_region 28 with (first
          | (refine wpBuilt2 rfl _ _ rfl _ _ (builtEnd 3 1) rfl rfl ?_)
          | (go_at_call 19; refine HC.out.mono ?_; rintro e v3 ⟨x3, vq3, gq3, rfl, _, _, hst, hfr⟩; refine Hid.out ?_))
        have SV3 := Lib.hid hst
        have OA3 := Lib.hid (OA2.out.fr hfr.fr SV2.out.uni.muts)
        clear hst hfr HC SV2 OA2
        have HC := Lib.hid (st_send SV3.out 2 (.slice p2 n2 c2) k (by have := HN1.out; have := HN2.out; omega) HWK.out HK.out)
        refine Lib.hid ?_
        go_upto_region 30 with (go_at_call 28; refine HC.out.mono ?_; rintro e v4 ⟨x4, rfl, hst, hfr⟩; refine Hid.out ?_)
        have SV4 := Lib.hid hst
        have OA4 := Lib.hid (OA3.out.fr hfr.fr SV3.out.uni.muts)
        clear hst hfr HC SV3 OA3
        have HC := Lib.hid (st_end SV4.out 3 2 (by have := HN1.out; have := HN2.out; omega))
        refine Lib.hid ?_
        go_upto_region 31 with (first
          | (refine wpBuilt2 rfl _ _ rfl _ _ (builtEnd 3 2) rfl rfl ?_)
          | (go_at_call 19; refine HC.out.mono ?_; rintro e v5 ⟨x5, vq5, gq5, rfl, _, _, hst, hfr⟩; refine Hid.out ?_))
        have SV5 := Lib.hid hst
        have OA5 := Lib.hid (OA4.out.fr hfr.fr SV4.out.uni.muts)
        clear hst hfr HC SV4 OA4
        have HAN := Lib.hid (HANS.out v5 SV5.out.bel)
        refine Lib.hid ?_
        go_wp2_with (first
          | (go_at_call 11; refine HAN.out.mono ?_; rintro e u1 ⟨rfl, hb⟩; have SW := Lib.hid (SV5.out.below hb); have OW := Lib.hid (OA5.out.below hb); have HCB := Lib.hid (st_base SW.out); clear hb HAN)
          | (go_at_call 15; refine HCB.out.mono ?_; rintro e u2 ⟨vb, Lb, rfl, hub, hob, hb⟩; have SX := Lib.hid (SW.out.below hb); have HSA := Lib.hid (rsame_eq _ vb La Lb (by have := HLA.out; omega) (WfUL.rl (by have h2 := SX.out.fit.fit.base; rw [SX.out.un] at h2; exact h2) hub) (by rw [HUA.out, hub]; exact HSS.out) u2 (OW.out.below hb).lies hob.lies); clear hub hob hb HCB)
          | (go_at_call 14; refine HSA.out.mono ?_; rintro e u3 ⟨rfl, hb⟩; have HBE := Lib.hid (SX.out.below hb).bel; clear hb HSA))
        go_ret
        exact ⟨rfl, HBE.out⟩
      · have hU : twoU (l.map (·.u)) (k.map (·.u)) true true = takeS (takeS (sendS (sendS s32 1 (l.map (·.u))) 2 (k.map (·.u))) (endM 3 2)) (endM 4 1) := by unfold twoU; simp only [fstT, sndT, kndT, if_true]
        have hV : twoV (l.map (·.u)) (k.map (·.u)) false true = takeS (sendS (takeS (s32) (endM 3 1)) 2 (k.map (·.u))) (endM 3 2) := by unfold twoV; simp only [if_true, if_false, Bool.false_eq_true]
        have HSS := Lib.hid (show (takeS (takeS (sendS (sendS s32 1 (l.map (·.u))) 2 (k.map (·.u))) (endM 3 2)) (endM 4 1)).base = (takeS (sendS (takeS (s32) (endM 3 1)) 2 (k.map (·.u))) (endM 3 2)).base by rw [← hU, ← hV]; exact HS.out)
        clear hU hV HS
        have HC := Lib.hid (st_new 32 32 (by decide) w wr HB0.out (HT.out.below HZ.out HB0.out) HZ.out)
        go_upto_region 13 with (go_at_call 10; refine HC.out.mono ?_; rintro e w1 ⟨rfl, hst, _⟩; refine Hid.out ?_)
        have ST1 := Lib.hid (show Stt w wr.heap.size (nilUm wr.heap.size 32) s32 0 w1 from hst)
        clear hst HC HB0
        generalize nilUm wr.heap.size 32 = y1 at *
        generalize wr.heap.size = BU at *
        have HC := Lib.hid (st_send ST1.out 1 (.slice p1 n1 c1) l (by have := HN1.out; have := HN2.out; omega) HWL.out HL.out)
        refine Lib.hid ?_
        go_upto_region 14 with (go_at_call 28; refine HC.out.mono ?_; rintro e w2 ⟨y2, rfl, hst, hfr⟩; refine Hid.out ?_)
        have ST2 := Lib.hid hst
        clear hst hfr HC ST1
        have HC := Lib.hid (st_send ST2.out 2 (.slice p2 n2 c2) k (by have := HN1.out; have := HN2.out; omega) HWK.out HK.out)
        refine Lib.hid ?_
        go_upto_region 15 with (go_at_call 28; refine HC.out.mono ?_; rintro e w3 ⟨y3, rfl, hst, hfr⟩; refine Hid.out ?_)
        have ST3 := Lib.hid hst
        clear hst hfr HC ST2
        refine Lib.hid ?_
        go_upto_region 21 with fail
        have HC := Lib.hid (st_end ST3.out 3 2 (by have := HN1.out; have := HN2.out; omega))
        go_upto_region 22 with (first
          | (refine wpBuilt2 rfl _ _ rfl _ _ (builtEnd 3 2) rfl rfl ?_)
          | (go_at_call 19; refine HC.out.mono ?_; rintro e w4 ⟨y4, vv4, gg4, rfl, _, _, hst, hfr⟩; refine Hid.out ?_))
        have ST4 := Lib.hid hst
        clear hst hfr HC ST3
        have HC := Lib.hid (st_end ST4.out 4 1 (by have := HN1.out; have := HN2.out; omega))
        refine Lib.hid ?_
        go_upto_region 23 with (first
          | (refine wpBuilt2 rfl _ _ rfl _ _ (builtEnd 4 1) rfl rfl ?_)
          | (go_at_call 19; refine HC.out.mono ?_; rintro e w5 ⟨y5, vv5, gg5, rfl, _, _, hst, hfr⟩; refine Hid.out ?_))
        have ST5 := Lib.hid hst
        clear hst hfr HC ST4
        have HC := Lib.hid (st_base ST5.out)
        refine Lib.hid ?_
        go_upto_region 24 with (go_at_call 15; refine HC.out.mono ?_; rintro e w6 ⟨va, La, rfl, hua, hoa, hw6⟩; refine Hid.out ?_)
        have HUA := Lib.hid hua
        have HOA := Lib.hid hoa
        have HLA := Lib.hid (show La.length ≤ 9000 by have h1 := congrArg List.length hua; rw [List.length_map] at h1; have h2 := ST5.out.fit.fit.size; rw [ST5.out.un] at h2; have := ST5.out.fit.n; omega)
        have ST6 := Lib.hid (ST5.out.below hw6)
        clear hua hoa hw6 HC ST5
        obtain ⟨pa, ca, ea⟩ := HOA.out.1.form
        subst ea
        have HC := Lib.hid (st_new 32 32 (by decide) w w6 ST6.out.bel ST6.out.tab HZ.out)
        refine Lib.hid ?_
        go_upto_region 25 with (go_at_call 10; refine HC.out.mono ?_; rintro e v1 ⟨rfl, hst, hbv⟩; refine Hid.out ?_)
        have SV1 := Lib.hid (show Stt w w6.heap.size (nilUm w6.heap.size 32) s32 0 v1 from hst)
        have OA1 := Lib.hid (HOA.out.below hbv)
        clear hst HC ST6 hbv HOA
        generalize nilUm w6.heap.size 32 = x1 at *
        generalize w6.heap.size = BV at *
        have HC := Lib.hid (st_end SV1.out 3 1 (by have := HN1.out; have := HN2.out; omega))
        refine Lib.hid ?_
        go_upto_region 28 with (first
          | (refine wpBuilt2 rfl _ _ rfl _ _ (builtEnd 3 1) rfl rfl ?_)
          | (go_at_call 19; refine HC.out.mono ?_; rintro e v2 ⟨x2, vq2, gq2, rfl, _, _, hst, hfr⟩; refine Hid.out ?_))
        have SV2 := Lib.hid hst
        have OA2 := Lib.hid (OA1.out.fr hfr.fr SV1.out.uni.muts)
        clear hst hfr HC SV1 OA1
        have HC := Lib.hid (st_send SV2.out 2 (.slice p2 n2 c2) k (by have := HN1.out; have := HN2.out; omega) HWK.out HK.out)
        refine Lib.hid ?_
        go_upto_region 30 with (go_at_call 28; refine HC.out.mono ?_; rintro e v3 ⟨x3, rfl, hst, hfr⟩; refine Hid.out ?_)
        have SV3 := Lib.hid hst
        have OA3 := Lib.hid (OA2.out.fr hfr.fr SV2.out.uni.muts)
        clear hst hfr HC SV2 OA2
        have HC := Lib.hid (st_end SV3.out 3 2 (by have := HN1.out; have := HN2.out; omega))
        refine Lib.hid ?_
        go_upto_region 31 with (first
          | (refine wpBuilt2 rfl _ _ rfl _ _ (builtEnd 3 2) rfl rfl ?_)
          | (go_at_call 19; refine HC.out.mono ?_; rintro e v4 ⟨x4, vq4, gq4, rfl, _, _, hst, hfr⟩; refine Hid.out ?_))
        have SV4 := Lib.hid hst
        have OA4 := Lib.hid (OA3.out.fr hfr.fr SV3.out.uni.muts)
        clear hst hfr HC SV3 OA3
        have HAN := Lib.hid (HANS.out v4 SV4.out.bel)
        refine Lib.hid ?_
        go_wp2_with (first
          | (go_at_call 11; refine HAN.out.mono ?_; rintro e u1 ⟨rfl, hb⟩; have SW := Lib.hid (SV4.out.below hb); have OW := Lib.hid (OA4.out.below hb); have HCB := Lib.hid (st_base SW.out); clear hb HAN)
          | (go_at_call 15; refine HCB.out.mono ?_; rintro e u2 ⟨vb, Lb, rfl, hub, hob, hb⟩; have SX := Lib.hid (SW.out.below hb); have HSA := Lib.hid (rsame_eq _ vb La Lb (by have := HLA.out; omega) (WfUL.rl (by have h2 := SX.out.fit.fit.base; rw [SX.out.un] at h2; exact h2) hub) (by rw [HUA.out, hub]; exact HSS.out) u2 (OW.out.below hb).lies hob.lies); clear hub hob hb HCB)
          | (go_at_call 14; refine HSA.out.mono ?_; rintro e u3 ⟨rfl, hb⟩; have HBE := Lib.hid (SX.out.below hb).bel; clear hb HSA))
        go_ret
        exact ⟨rfl, HBE.out⟩
end Go.Proofs.YtomnpfbebimpkaaGreatDoor
namespace Go.Proofs.YtomnpfbebimpkaaGreatDoor
open Go.ChangeShapes Go.WideShapes Go.ChangeAt Go.RowKit

set_option maxRecDepth 100000 in
theorem unitTwo_lifted (os : Os) (started : os.Started) (H : Type) (enc : TypeId × Value → H) :
    ReturnsInHanded {} Tryz.checked os 8 .any (fun w args => (Rows.unitTwoSpec.pre enc Tryz.prog Tryz.f8 [] false w args ∧ laidMetH Tryz.prog laid1 w) ∧ sizedMet enc Tryz.prog Tryz.f8 (OpenSpec.ofChange Rows.unitTwoSpec) false w args)
      (Rows.unitTwoSpec.post enc Tryz.prog Tryz.f8 false true false false) := by
  refine returnsInHanded_of_change_and (C := Tryz.checked) (X := fun w _ => laidMetH Tryz.prog laid1 w) (fun _ _ _ hh h => h.of_heap hh) own started (by kernel_rfl) Tryz.func8
    (ChangeSpec.witness_shaped (enc := enc) (C := Tryz.checked) (os := os) (X := fun w _ => laidMetH Tryz.prog laid1 w) false (World.doorLaid Tryz.prog 400 os) #[.slice none 0 0, .slice none 0 0, .bool false, .bool false] 8 rfl (World.shaped_of_RefB (by kernel_rfl) (by kernel_rfl)) (by kernel_rfl) (by kernel_rfl) (by kernel_rfl) (door_met os _)) ?_
  intro W base args ds gs before hval0 hW _ hsz0 hL _
  have hval : ∀ (j : Nat) t v, Tryz.f8.params[j]? = some t → args[j]? = some v → Value.okWide Tryz.prog W .any base t v := hval0
  have hW' := hW
  obtain ⟨p, q, hA0, hV, rfl, hfz, hnd⟩ := hW'
  have hA : DataW.TrodAll enc Tryz.prog W 0 (fun _ => true) true Tryz.f8.params.toList args.toList ds p := hA0
  rw [Tryz.params8] at hA hval
  have hsz : (DataW.weightsEach Tryz.prog (Tryz.f8.params.toList ++ Rows.unitTwoSpec.plain.varTypes Tryz.prog) (ds ++ gs)).all (· ≤ reachBytes) = true := hsz0
  rw [Tryz.params8] at hsz
  clear hsz0
  obtain ⟨v0, vs0, d0, ds0, p0, q0, hargs, rfl, rfl, h0, r0⟩ := trodAll_cons hA
  obtain ⟨v1, vs1, d1, ds1, p1, q1, rfl, rfl, rfl, h1, r1⟩ := trodAll_cons r0
  obtain ⟨v2, vs2, d2, ds2, p2, q2, rfl, rfl, rfl, h2, r2⟩ := trodAll_cons r1
  obtain ⟨v3, vs3, d3, ds3, p3, q3, rfl, rfl, rfl, h3, r3⟩ := trodAll_cons r2
  obtain ⟨rfl, rfl, rfl⟩ := trodAll_nil r3
  obtain rfl : args = #[v0, v1, v2, v3] := by cases args; simp_all
  obtain ⟨rfl, rfl⟩ := trodVars_none hV
  obtain ⟨l0, hl0, hw0, hb0⟩ := open_mods (light_of hsz (j := 0) rfl rfl) (hval 0 50 v0 rfl rfl) h0
  obtain ⟨l1, hl1, hw1, hb1⟩ := open_mods (light_of hsz (j := 1) rfl rfl) (hval 1 50 v1 rfl rfl) h1
  obtain ⟨a2, rfl, rfl, rfl⟩ := open_bool Tryz.underlying4 (hval 2 4 v2 rfl rfl) h2
  obtain ⟨a3, rfl, rfl, rfl⟩ := open_bool Tryz.underlying4 (hval 3 4 v3 rfl rfl) h3
  clear hA0 hval0
  have hW' := hW
  simp only [List.append_nil] at hW'
  have hlt := hW'.lt
  have ht := tab_of_laid hL
  refine (unitTwo_any v0 l0 hw0 hb0 v1 l1 hw1 hb1 a2 a3 W hl0 hl1 ht ht.size).mono fun e W' ⟨he, hg⟩ => ?_
  subst he
  exact ⟨_, rfl, post_oldK hW' hg (fun _ _ _ => (trodAll_cons_mk (shut_bool Tryz.underlying4 _) trodAll_mk0)) (trodAll_cons_mk (Below.trod laidOutK readMods rowMods h0 hg (fun x hx => hlt x (by simp [hx]))) (trodAll_cons_mk (Below.trod laidOutK readMods rowMods h1 hg (fun x hx => hlt x (by simp [hx]))) (trodAll_cons_mk (shut_bool Tryz.underlying4 _) (trodAll_cons_mk (shut_bool Tryz.underlying4 _) trodAll_mk0)))) (fun _ => rfl)⟩

theorem unitTwo_over : Rows.UnitTwoSaid :=
  OpenClaim.holds_of_wide 8 Tryz.f8 rfl rfl rfl rfl rfl rfl rfl ⟨rfl, rfl, rfl, rfl, rfl⟩ rfl rfl rfl rfl rfl (by kernel_rfl) Tryz.func8 (by kernel_rfl)
    (of_decide_eq_true (by kernel_rfl)) (by unfold Func.isWrapper; first | (rw [if_pos (by decide +kernel)]; kernel_rfl) | (rw [if_neg (by decide +kernel)]; exact ⟨rfl, rfl⟩))
    (fun os started H enc _ => unitTwo_lifted os started H enc)

theorem unitTwo_proved : Rows.UnitTwoCardSaid :=
  Claim7.holds_tied_plain_at .later [] [.data] true Rows.unitTwoCard.stood.harness false
    unitTwo_over (fun _ h => by cases h) (by kernel_rfl) (fun _ h => by cases h) unitTwo_row_tie rfl ⟨rfl, rfl⟩ (by kernel_rfl) rfl
    (fun f fn hf hfn => by
      obtain rfl : f = 8 := Option.some.inj ((show Tryz.prog.funcNamed Rows.unitTwoRow.func = some 8 by kernel_rfl).symm.trans hf) |>.symm
      obtain rfl : fn = Tryz.f8 := (Option.some.inj (Tryz.func8.symm.trans hfn)).symm
      exact ⟨by kernel_rfl, fun j t ht => by
        rw [Tryz.params8] at ht
        have hm : t ∈ [50, 50, 4, 4] := by simpa using Array.mem_of_getElem? ht
        have hall : ([50, 50, 4, 4].all fun u => !Tryz.prog.wantsStandIn u) = true := by kernel_rfl
        exact (show Tryz.prog.wantsStandIn t = false by simpa using List.all_eq_true.1 hall t hm)⟩)
    (by kernel_rfl)
end Go.Proofs.YtomnpfbebimpkaaGreatDoor
