/-
  The walk of the law TopoBack.
-/
import Derived.Test.YtgmfmmabegcocaaTopAns
import Derived.Test.YtgmfmmabegcocaaTopCnt
namespace Go.Proofs.Ytgmfmmabegcocaa
set_option maxRecDepth 20000
open Go.RowKit

/-- is an end among those? -/
def seenB (l : List En) (x : En) : Bool := l.any fun e => decide (e = x)
theorem seen_next {l : List En} {r : Nat} {y : En} (h : l[r]? = some y) (x : En) : seenB (l.take (r + 1)) x = (seenB (l.take r) x || decide (y = x)) := by
  unfold seenB
  rw [take_some h, List.any_append]
  simp
theorem seen_none {U P R : Int} {L : List Ln} {x : En} (h : leadB (mapL U P R L) x = true) : seenB (edgL U P R L) x = false := by
  unfold seenB
  rw [List.any_eq_false]
  intro e he hx
  have hx := of_decide_eq_true hx
  subst hx
  unfold edgL at he
  unfold mapL at h
  split at he
  · rename_i hf
    rw [if_pos hf] at h
    rw [grid_none he] at h
    cases h
  · cases he
/-- what the walk holds -/
structure TpS (w0 : World) (sc : Array Value) (x a : En) (b5 B : Nat) (v : Value) (l : List En) (W : World) : Prop where
  s : Blk w0.heap.size sc 24 W
  e : Blk (w0.heap.size + 1) (eca x) 26 W
  a : Blk b5 (eca a) 26 W
  o : KOwns KE B v l W
  kept : Below w0.heap.size w0 W
theorem TpS.below {w0 W W' : World} {sc : Array Value} {x a : En} {b5 B : Nat} {v : Value} {l : List En} (h : TpS w0 sc x a b5 B v l W) (hb : Below W.heap.size W W') : TpS w0 sc x a b5 B v l W' :=
  ⟨h.s.below hb, h.e.below hb, h.a.below hb, h.o.below hb, h.kept.trans (hb.mono h.kept.size)⟩
theorem edg_len {u p : Nat} {R : Int} {L : List Ln} (h : fault u p R L = 0) : (edgL (u : Int) (p : Int) R L).length + 2 * L.length = p * u := by
  unfold edgL
  rw [if_pos h]
  exact grid_count h
theorem edg_len_le (U P R : Int) (L : List Ln) : (edgL U P R L).length ≤ 128 := by
  unfold edgL
  split
  · rename_i hf
    obtain ⟨hr, _⟩ := fault_zero hf
    simp only [rangeB, Bool.and_eq_true, decide_eq_true_eq] at hr
    have h1 := grid_len_le (pairsL L) P.toNat U.toNat
    have h2 : P.toNat * U.toNat ≤ 16 * 8 := Nat.mul_le_mul (by omega) (by omega)
    omega
  · exact Nat.zero_le _
set_option maxRecDepth 100000 in
set_option maxHeartbeats 8000000 in
theorem topoBack_any (U P R : Int) (q : Option Addr) (n c : Nat) (L : List Ln) (x : En) (w : World) (hl : KLies KN (.slice q n c) L w) (_ : L.length * 32 ≤ 140737488355328) :
    Calls Try.prog 4 #[.agg #[.int .i64 U, .int .i64 P, .int .i64 R, .slice q n c], .agg (eca x)] w fun e w' => e = .returned (.bool true) ∧ Below w.heap.size w w' := by
  obtain ⟨q', c', e'⟩ := hl.form
  injection e' with e1 e2 e3
  subst e2
  clear e1 e3
  obtain ⟨n, hn⟩ : ∃ n, n = L.length := ⟨_, rfl⟩
  rw [← hn] at hl ⊢
  have HN := Lib.hid hn
  clear hn
  have hb1 := below1 w (.cells (sca U P R q n c) 24)
  have hb2 := below1 (w.alloc (.cells (sca U P R q n c) 24)) (.cells (eca x) 26)
  have RS0 := Lib.hid ((Blk.new w (sca U P R q n c) 24).below hb2)
  have RE0 := Lib.hid (Blk.new2 w (.cells (sca U P R q n c) 24) (eca x) 26)
  have HB0 := Lib.hid (hb1.trans (hb2.mono hb1.size))
  have HL := Lib.hid hl
  clear hl hb1 hb2
  change Calls Try.prog _ #[.agg (sca U P R q n c), _] _ _
  by_cases hB : 100 < n
  · have hBI : (100 : Int) < (n : Int) := by omega
    clear hB
    go_enter Try.func4, Try.ntmps4
    go_upto_region 1 with fail
    generalize (w.alloc (.cells (sca U P R q n c) 24)).alloc (.cells (eca x) 26) = W0 at *
    have k3 : W0.cell? ⟨w.heap.size, 3, none⟩ = some (.slice q n c) := (cell_of_row _ w.heap.size 3 _ _ _ RS0.out).trans rfl
    have HA := Lib.hid (answers12 W0)
    go_wp2_with (go_at_call 6; refine HA.out.mono ?_; rintro e W1 ⟨rfl, hb⟩)
    go_ret
    exact ⟨rfl, HB0.out.trans (hb.mono HB0.out.size)⟩
  have hBI : ¬ (100 : Int) < (n : Int) := by omega
  have HL9 := Lib.hid (show L.length ≤ 1000000 by have := HN.out; omega)
  have HL8 := Lib.hid (show n ≤ 100 by omega)
  clear hB
  obtain ⟨V, hV⟩ : ∃ V, V = leadV (mapL U P R L) x := ⟨_, rfl⟩
  obtain ⟨Y, hY⟩ : ∃ Y, Y = leadB (mapL U P R L) x := ⟨_, rfl⟩
  have HV := Lib.hid (And.intro hV hY)
  clear hV hY
  go_enter Try.func4, Try.ntmps4
  go_upto_region 1 with fail
  generalize (w.alloc (.cells (sca U P R q n c) 24)).alloc (.cells (eca x) 26) = W0 at *
  have k3 : W0.cell? ⟨w.heap.size, 3, none⟩ = some (.slice q n c) := (cell_of_row _ w.heap.size 3 _ _ _ RS0.out).trans rfl
  go_upto_region 3 with fail
  have HC := Lib.hid (tother_any U P R q n c L HL9.out x W0 (HL.out.below okN HB0.out))
  rw [← HV.out.1, ← HV.out.2] at HC
  clear k3 hBI
  go_wp2_with (first
    | (refine wpList_load_row rfl 24 _ rfl w.heap.size rfl 24 (sca U P R q n c) (0, 0) _ RS0.out Try.underlying24 rfl infoS4 ?_)
    | (refine wpList_load_row rfl 26 _ rfl (w.heap.size + 1) rfl 26 (eca x) (0, 0) _ RE0.out Try.underlying26 rfl infoE ?_)
    | (go_at_call 7; refine HC.out.mono ?_; rintro e W1 ⟨rfl, hb⟩; refine Hid.out ?_))
  have HB1 := Lib.hid (HB0.out.trans (hb.mono HB0.out.size))
  have RS1 := Lib.hid (RS0.out.below hb)
  have RE1 := Lib.hid (RE0.out.below hb)
  obtain ⟨b5, hb5⟩ : ∃ b5, b5 = W1.heap.size := ⟨_, rfl⟩
  clear hb HC RS0 RE0 HB0
  refine Lib.hid ?_
  go_upto_region 4 with (refine wpList_store_row rfl 26 _ _ rfl W1.heap.size (eca V) rfl rfl 26 _ (heap_alloc_new _ _) infoE rfl (eca_one V) ?_; rw [World.setRow_alloc_new])
  have hb := below1 W1 (.cells (eca V) 26)
  have HB2 := Lib.hid (HB1.out.trans (hb.mono HB1.out.size))
  have RS2 := Lib.hid (RS1.out.below hb)
  have RE2 := Lib.hid (RE1.out.below hb)
  have RA2 := Lib.hid (Blk.new W1 (eca V) 26)
  rw [← hb5] at RA2 ⊢
  clear hb hb5 HB1 RS1 RE1
  generalize W1.alloc (.cells (eca V) 26) = W2 at *
  have HC := Lib.hid (tedges_any U P R q n c L HL9.out W2 (HL.out.below okN HB2.out))
  go_wp2_with (first
    | (refine wpList_load_row rfl 24 _ rfl w.heap.size rfl 24 (sca U P R q n c) (0, 0) _ RS2.out Try.underlying24 rfl infoS4 ?_)
    | (go_at_call 11; refine HC.out.mono ?_; rintro e W3 ⟨v, rfl, ho, hb⟩; refine Hid.out ?_))
  have HS := Lib.hid (show TpS w (sca U P R q n c) x V b5 W2.heap.size v (edgL U P R L) W3 from ⟨RS2.out.below hb, RE2.out.below hb, RA2.out.below hb, ho, HB2.out.trans (hb.mono HB2.out.size)⟩)
  obtain ⟨B, hB⟩ : ∃ B, B = W2.heap.size := ⟨_, rfl⟩
  rw [← hB] at HS
  obtain ⟨p7, c7, rfl⟩ := ho.form
  have HE := Lib.hid (edg_len_le U P R L)
  have HSN := Lib.hid (fun h : leadB (mapL U P R L) x = true => seen_none h)
  have HCT := Lib.hid (show ∀ u p : Nat, U = u → P = p → fault U P R L = 0 → (edgL U P R L).length + 2 * L.length = p * u from fun u p e1 e2 h => by subst e1 e2; exact edg_len h)
  generalize edgL U P R L = E at *
  obtain ⟨m, hm⟩ : ∃ m, m = E.length := ⟨_, rfl⟩
  rw [← hm] at HS ⊢
  have HM := Lib.hid hm
  clear hb ho hB hm HC RS2 RE2 RA2 HB2
  refine Lib.hid ?_
  go_wp2_with fail
  go_loopg [9, 8] m (fun k s9 s8 wr => ∃ r : Nat, r + k = m ∧ s9 = .int .i64 r ∧ s8 = .bool (seenB (E.take r) x) ∧ TpS w (sca U P R q n c) x V b5 B (.slice p7 m c7) E wr)
  case atStart => exact ⟨0, by omega, rfl, rfl, HS.out⟩
  case round =>
    clear HS
    obtain ⟨r, hr, rfl, rfl, hs⟩ := hrel
    have HS := Lib.hid hs
    clear hs
    by_cases hlt : r < m
    · have hltI : (r : Int) < (m : Int) := by omega
      have hdI : decide ((r : Int) < (m : Int)) = true := decide_eq_true hltI
      obtain ⟨y, hy⟩ := lt_some (l := E) (i := r) (by have := HM.out; omega)
      have HY := Lib.hid hy
      obtain ⟨bb, o, rfl, _⟩ := (HS.out.o.lies okE).at hy
      have HSX := Lib.hid (seen_next hy x)
      have hr9 : r < 1000 := by have := HE.out; have := HM.out; omega
      have heq : ∀ w, (Op.equalIn 10000 26 (.agg (ecl y).toArray) (.agg (eca x))).run Try.prog w = .ok (decide (y = x)) w := fun w => eql_end y x w
      have hgd := guardEnd
      clear hy
      go_upto_region 9 with fail
      cases hsb : seenB (E.take r) x with
      | true =>
        rw [hsb] at HSX
        have HS1 := Lib.hid (HS.out.below (Below.refl _ _).drew)
        refine wp_region_held_drew (S := (fun W => TpS w (sca U P R q n c) x V b5 B (.slice (some ⟨bb, o, none⟩) m c7) E W)) (by kernel_rfl) HS1.out (fun hS => ?_)
        clear HS hsb
        generalize wr.drew = V0 at *
        refine seqRead 0 (v := _) rfl (by kernel_rfl) (by kernel_rfl) (by kernel_rfl) (fun _ _ _ h => h) rfl (fun w hSw => by go_simp <;> with_reducible rfl) hS ?_
        try simp only [Act.put, List.setIfInBounds_toArray, List.set_cons_zero, List.set_cons_succ]
        refine seqRead 1 (v := _) rfl (by kernel_rfl) (by kernel_rfl) (by kernel_rfl) (fun _ _ _ h => h) rfl (fun w hSw => by go_simp <;> with_reducible rfl) hS ?_
        try simp only [Act.put, List.setIfInBounds_toArray, List.set_cons_zero, List.set_cons_succ]
        refine seqSkip 2 rfl (by kernel_rfl) (by kernel_rfl) (by kernel_rfl) (fun _ _ _ h => h) rfl hS ?_
        try simp only [Act.put, List.setIfInBounds_toArray, List.set_cons_zero, List.set_cons_succ]
        refine seqSkip 3 rfl (by kernel_rfl) (by kernel_rfl) (by kernel_rfl) (fun _ _ _ h => h) rfl hS ?_
        try simp only [Act.put, List.setIfInBounds_toArray, List.set_cons_zero, List.set_cons_succ]
        refine seqSkip 4 rfl (by kernel_rfl) (by kernel_rfl) (by kernel_rfl) (fun _ _ _ h => h) rfl hS ?_
        try simp only [Act.put, List.setIfInBounds_toArray, List.set_cons_zero, List.set_cons_succ]
        refine seqSkip 5 rfl (by kernel_rfl) (by kernel_rfl) (by kernel_rfl) (fun _ _ _ h => h) rfl hS ?_
        try simp only [Act.put, List.setIfInBounds_toArray, List.set_cons_zero, List.set_cons_succ]
        refine seqSkip 6 rfl (by kernel_rfl) (by kernel_rfl) (by kernel_rfl) (fun _ _ _ h => h) rfl hS ?_
        try simp only [Act.put, List.setIfInBounds_toArray, List.set_cons_zero, List.set_cons_succ]
        refine seqSkip 7 rfl (by kernel_rfl) (by kernel_rfl) (by kernel_rfl) (fun _ _ _ h => h) rfl hS ?_
        try simp only [Act.put, List.setIfInBounds_toArray, List.set_cons_zero, List.set_cons_succ]
        refine seqRead 8 (v := _) rfl (by kernel_rfl) (by kernel_rfl) (by kernel_rfl) (fun _ _ _ h => h) rfl (fun w hSw => by go_simp <;> with_reducible rfl) hS ?_
        try simp only [Act.put, List.setIfInBounds_toArray, List.set_cons_zero, List.set_cons_succ]
        refine seqRead 9 (v := _) rfl (by kernel_rfl) (by kernel_rfl) (by kernel_rfl) (fun _ _ _ h => h) rfl (fun w hSw => by go_simp <;> with_reducible rfl) hS ?_
        try simp only [Act.put, List.setIfInBounds_toArray, List.set_cons_zero, List.set_cons_succ]
        refine seqDone (by kernel_rfl) ?_
        clear hS heq hgd
        go_wp2_with fail
        go_roundg (m - (r + 1))
        case measure => omega
        case rel => exact ⟨r + 1, by omega, by go_num, by rw [HSX.out]; rfl, HS1.out⟩
      | false =>
        rw [hsb] at HSX
        have HS1 := Lib.hid (HS.out.below (Below.refl _ _).drew)
        refine wp_region_held_drew (S := (fun W => TpS w (sca U P R q n c) x V b5 B (.slice (some ⟨bb, o, none⟩) m c7) E W)) (by kernel_rfl) HS1.out (fun hS => ?_)
        clear HS hsb
        generalize wr.drew = V0 at *
        generalize hyb : decide (y = x) = yb at *
        refine seqRead 0 (v := _) rfl (by kernel_rfl) (by kernel_rfl) (by kernel_rfl) (fun _ _ _ h => h) rfl (fun w hSw => by go_simp <;> with_reducible rfl) hS ?_
        try simp only [Act.put, List.setIfInBounds_toArray, List.set_cons_zero, List.set_cons_succ]
        refine seqRead 1 (v := _) rfl (by kernel_rfl) (by kernel_rfl) (by kernel_rfl) (fun _ _ _ h => h) rfl (fun w hSw => by go_simp <;> with_reducible rfl) hS ?_
        try simp only [Act.put, List.setIfInBounds_toArray, List.set_cons_zero, List.set_cons_succ]
        refine seqRead 2 (v := _) rfl (by kernel_rfl) (by kernel_rfl) (by kernel_rfl) (fun _ _ _ h => h) rfl (fun w hSw => by go_simp <;> with_reducible rfl) hS ?_
        try simp only [Act.put, List.setIfInBounds_toArray, List.set_cons_zero, List.set_cons_succ]
        refine seqRead 3 (v := _) rfl (by kernel_rfl) (by kernel_rfl) (by kernel_rfl) (fun _ _ _ h => h) rfl (fun w hSw => by go_simp <;> with_reducible rfl) hS ?_
        try simp only [Act.put, List.setIfInBounds_toArray, List.set_cons_zero, List.set_cons_succ]
        refine seqRead 4 (v := _) rfl (by kernel_rfl) (by kernel_rfl) (by kernel_rfl) (fun _ _ _ h => h) rfl (fun w hSw => by go_simp <;> with_reducible rfl) hS ?_
        try simp only [Act.put, List.setIfInBounds_toArray, List.set_cons_zero, List.set_cons_succ]
        refine seqRead 5 (v := _) rfl (by kernel_rfl) (by kernel_rfl) (by kernel_rfl) (fun _ _ _ h => h) rfl (fun w hSw => execRow rfl bb (o + r * 2) rfl (ecl y) _ ((hSw.o.lies okE).at' HY.out) Try.underlying26 rfl infoE) hS ?_
        try simp only [Act.put, List.setIfInBounds_toArray, List.set_cons_zero, List.set_cons_succ]
        refine seqRead 6 (v := _) rfl (by kernel_rfl) (by kernel_rfl) (by kernel_rfl) (fun _ _ _ h => h) rfl (fun w hSw => execRow0 rfl _ rfl hSw.e Try.underlying26 rfl infoE) hS ?_
        try simp only [Act.put, List.setIfInBounds_toArray, List.set_cons_zero, List.set_cons_succ]
        refine seqRead 7 (v := _) rfl (by kernel_rfl) (by kernel_rfl) (by kernel_rfl) (fun _ _ _ h => h) rfl (fun w hSw => by go_simp <;> with_reducible rfl) hS ?_
        try simp only [Act.put, List.setIfInBounds_toArray, List.set_cons_zero, List.set_cons_succ]
        refine seqRead 8 (v := _) rfl (by kernel_rfl) (by kernel_rfl) (by kernel_rfl) (fun _ _ _ h => h) rfl (fun w hSw => by go_simp <;> with_reducible rfl) hS ?_
        try simp only [Act.put, List.setIfInBounds_toArray, List.set_cons_zero, List.set_cons_succ]
        refine seqRead 9 (v := _) rfl (by kernel_rfl) (by kernel_rfl) (by kernel_rfl) (fun _ _ _ h => h) rfl (fun w hSw => by go_simp <;> with_reducible rfl) hS ?_
        try simp only [Act.put, List.setIfInBounds_toArray, List.set_cons_zero, List.set_cons_succ]
        refine seqDone (by kernel_rfl) ?_
        clear hS heq hgd hyb
        go_wp2_with fail
        go_roundg (m - (r + 1))
        case measure => omega
        case rel => exact ⟨r + 1, by omega, by go_num, by rw [HSX.out]; rfl, HS1.out⟩
    · have hltI : ¬ (r : Int) < (m : Int) := by omega
      have hr0 : E.take r = E := List.take_of_length_le (by have := HM.out; omega)
      rw [hr0]
      clear hr0
      cases hYc : Y with
      | false =>
        have HV0 := Lib.hid (show V = (0, 0) from HV.out.1.trans (leadV_none (HV.out.2.symm.trans hYc)))
        have HA := Lib.hid (answers12 wr)
        generalize seenB E x = sb at *
        go_upto_region 11 with fail
        go_wp2_with (go_at_call 6; refine HA.out.mono ?_; rintro e W4 ⟨rfl, hb⟩; refine Hid.out ?_)
        have RA := Lib.hid (HS.out.a.below hb)
        have HB4 := Lib.hid (HS.out.kept.trans (hb.mono HS.out.kept.size))
        have heq : ∀ w, (Op.equalIn 10000 26 (.agg (eca V)) (.agg #[.int .i64 0, .int .i64 0])).run Try.prog w = .ok true w := fun w => by
          have h1 := eql_end V (0, 0) w
          rw [HV0.out] at h1 ⊢
          exact h1
        have hgd := guardEnd
        clear hb HA HS
        refine Lib.hid ?_
        go_wp2_with (refine loadRowG rfl 26 _ rfl b5 rfl 26 (eca V) (0, 0) RA.out Try.underlying26 rfl infoE ?_)
        go_ret
        exact ⟨rfl, HB4.out⟩
      | true =>
        have HYT := Lib.hid (show leadB (mapL U P R L) x = true from HV.out.2.symm.trans hYc)
        have HBK := Lib.hid (lead_back HYT.out)
        rw [← HV.out.1] at HBK
        have hsb : seenB E x = false := HSN.out HYT.out
        rw [hsb]
        clear hsb
        have HC := Lib.hid (tother_any U P R q n c L HL9.out V wr (HL.out.below okN HS.out.kept))
        rw [HBK.out.1, HBK.out.2.1] at HC
        go_upto_region 12 with fail
        go_wp2_with (first
          | (refine wpList_load_row rfl 24 _ rfl w.heap.size rfl 24 (sca U P R q n c) (0, 0) _ HS.out.s Try.underlying24 rfl infoS4 ?_)
          | (refine wpList_load_row rfl 26 _ rfl b5 rfl 26 (eca V) (0, 0) _ HS.out.a Try.underlying26 rfl infoE ?_)
          | (go_at_call 7; refine HC.out.mono ?_; rintro e W4 ⟨rfl, hb⟩; refine Hid.out ?_))
        have HS4 := Lib.hid (HS.out.below hb)
        obtain ⟨b10, hb10⟩ : ∃ b10, b10 = W4.heap.size := ⟨_, rfl⟩
        clear hb HC HS
        refine Lib.hid ?_
        go_upto_region 13 with (refine wpList_store_row rfl 26 _ _ rfl W4.heap.size (eca x) rfl rfl 26 _ (heap_alloc_new _ _) infoE rfl (eca_one x) ?_; rw [World.setRow_alloc_new])
        have HS5 := Lib.hid (HS4.out.below (below1 W4 (.cells (eca x) 26)))
        have RB5 := Lib.hid (Blk.new W4 (eca x) 26)
        rw [← hb10] at RB5 ⊢
        clear HS4 hb10
        generalize W4.alloc (.cells (eca x) 26) = W5 at *
        have HA := Lib.hid (answers12 W5)
        go_wp2_with (go_at_call 6; refine HA.out.mono ?_; rintro e W6 ⟨rfl, hb⟩; refine Hid.out ?_)
        have HS6 := Lib.hid (HS5.out.below hb)
        have RB6 := Lib.hid (RB5.out.below hb)
        have k0 : W6.cell? ⟨w.heap.size, 0, none⟩ = some (.int .i64 U) := (cell_of_row _ w.heap.size 0 _ _ _ HS6.out.s).trans rfl
        have k1 : W6.cell? ⟨w.heap.size, 1, none⟩ = some (.int .i64 P) := (cell_of_row _ w.heap.size 1 _ _ _ HS6.out.s).trans rfl
        have k3 : W6.cell? ⟨w.heap.size, 3, none⟩ = some (.slice q n c) := (cell_of_row _ w.heap.size 3 _ _ _ HS6.out.s).trans rfl
        obtain ⟨z, hz⟩ : ∃ z : Nat, (z : Int) = U * P ∧ z ≤ 128 ∧ m + 2 * n = z := by
          have hr := (fault_zero HBK.out.2.2.2).1
          simp only [rangeB, Bool.and_eq_true, decide_eq_true_eq] at hr
          obtain ⟨u, rfl⟩ : ∃ u : Nat, U = u := ⟨U.toNat, by omega⟩
          obtain ⟨p, rfl⟩ : ∃ p : Nat, P = p := ⟨P.toNat, by omega⟩
          have h1 := HCT.out u p rfl rfl HBK.out.2.2.2
          have h2 : p * u ≤ 16 * 8 := Nat.mul_le_mul (by omega) (by omega)
          refine ⟨p * u, by rw [Int.natCast_mul, Int.mul_comm], by omega, ?_⟩
          rw [HM.out, HN.out]
          exact h1
        have e1 : IntKind.i64.wrap (U * P) = z := by rw [← hz.1, IntKind.wrap_i64]; omega
        have e2 : wrap64 (U * P) = z := by rw [← hz.1]; simp only [wrap64]; omega
        have hm9 : (m : Int) = (z : Int) - 2 * (n : Int) := by have := hz.2.2; omega
        have hz9 : z ≤ 128 := hz.2.1
        have hn9 : n ≤ 100 := HL8.out
        have heq1 : ∀ w, (Op.equalIn 10000 26 (.agg (eca x)) (.agg (eca x))).run Try.prog w = .ok true w := fun w => by
          have h1 := eql_end x x w
          rw [decide_eq_true rfl] at h1
          exact h1
        have heq2 : ∀ w, (Op.equalIn 10000 26 (.agg (eca V)) (.agg (eca x))).run Try.prog w = .ok false w := fun w => by
          have h1 := eql_end V x w
          rw [decide_eq_false HBK.out.2.2.1] at h1
          exact h1
        have hgd := guardEnd
        clear hb hz HA HS5 RB5
        refine Lib.hid ?_
        go_wp2_with (first
          | (refine loadRowG rfl 26 _ rfl b10 rfl 26 (eca x) (0, 0) RB6.out Try.underlying26 rfl infoE ?_)
          | (refine loadRowG rfl 26 _ rfl b5 rfl 26 (eca V) (0, 0) HS6.out.a Try.underlying26 rfl infoE ?_)
          | (refine loadRowG rfl 26 _ rfl (w.heap.size + 1) rfl 26 (eca x) (0, 0) HS6.out.e Try.underlying26 rfl infoE ?_))
        go_ret
        exact ⟨rfl, HS6.out.kept⟩
end Go.Proofs.Ytgmfmmabegcocaa
