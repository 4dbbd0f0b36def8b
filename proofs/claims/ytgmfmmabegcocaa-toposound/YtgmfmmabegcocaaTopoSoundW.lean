/-
  The walk of the law TopoSound.
-/
import Derived.Test.YtgmfmmabegcocaaTopoBackW
namespace Go.Proofs.Ytgmfmmabegcocaa
set_option maxRecDepth 20000
open Go.RowKit

/-- what the walk holds: ahead of the loops, in them -/
structure TqS (w0 : World) (sc : Array Value) (x d : En) (b5 b7 : Nat) (W : World) : Prop where
  s : Blk w0.heap.size sc 24 W
  e : Blk (w0.heap.size + 1) (eca x) 26 W
  a : Blk b5 (eca d) 26 W
  b : Blk b7 (eca d) 26 W
  kept : Below w0.heap.size w0 W
theorem TqS.below {w0 W W' : World} {sc : Array Value} {x a : En} {b5 b7 : Nat} (h : TqS w0 sc x a b5 b7 W) (hb : Below W.heap.size W W') : TqS w0 sc x a b5 b7 W' :=
  ⟨h.s.below hb, h.e.below hb, h.a.below hb, h.b.below hb, h.kept.trans (hb.mono h.kept.size)⟩
structure TrS (w0 : World) (sc : Array Value) (B : Nat) (v : Value) (l : List En) (W : World) : Prop where
  s : Blk w0.heap.size sc 24 W
  o : KOwns KE B v l W
  kept : Below w0.heap.size w0 W
theorem TrS.below {w0 W W' : World} {sc : Array Value} {B : Nat} {v : Value} {l : List En} (h : TrS w0 sc B v l W) (hb : Below W.heap.size W W') : TrS w0 sc B v l W' :=
  ⟨h.s.below hb, h.o.below hb, h.kept.trans (hb.mono h.kept.size)⟩
set_option maxRecDepth 100000 in
set_option maxHeartbeats 8000000 in
theorem topoSound_any (U P R : Int) (q : Option Addr) (n c : Nat) (L : List Ln) (x : En) (w : World) (hl : KLies KN (.slice q n c) L w) (hlen : L.length * 32 ≤ 140737488355328) :
    Calls Try.prog 3 #[.agg #[.int .i64 U, .int .i64 P, .int .i64 R, .slice q n c], .agg (eca x)] w fun e w' => e = .returned (.bool true) ∧ Below w.heap.size w w' := by
  obtain ⟨q', c', e'⟩ := hl.form
  injection e' with e1 e2 e3
  subst e2
  clear e1 e3
  obtain ⟨n, hn⟩ : ∃ n, n = L.length := ⟨_, rfl⟩
  rw [← hn] at hl ⊢
  have HN := Lib.hid hn
  have HLB := Lib.hid hlen
  clear hn hlen
  have hb1 := below1 w (.cells (sca U P R q n c) 24)
  have hb2 := below1 (w.alloc (.cells (sca U P R q n c) 24)) (.cells (eca x) 26)
  have RS0 := Lib.hid ((Blk.new w (sca U P R q n c) 24).below hb2)
  have RE0 := Lib.hid (Blk.new2 w (.cells (sca U P R q n c) 24) (eca x) 26)
  have HB0 := Lib.hid (hb1.trans (hb2.mono hb1.size))
  have HL := Lib.hid hl
  clear hl hb1 hb2
  change Calls Try.prog _ #[.agg (sca U P R q n c), _] _ _
  by_cases hB : 100 < n
  · have hBI : (100 : Int) < (n : Int) := by omega
    clear hB
    go_enter Try.func3, Try.ntmps3
    go_upto_region 1 with fail
    generalize (w.alloc (.cells (sca U P R q n c) 24)).alloc (.cells (eca x) 26) = W0 at *
    have k3 : W0.cell? ⟨w.heap.size, 3, none⟩ = some (.slice q n c) := (cell_of_row _ w.heap.size 3 _ _ _ RS0.out).trans rfl
    have HA := Lib.hid (answers12 W0)
    go_wp2_with (go_at_call 6; refine HA.out.mono ?_; rintro e W1 ⟨rfl, hb⟩)
    go_ret
    exact ⟨rfl, HB0.out.trans (hb.mono HB0.out.size)⟩
  have hBI : ¬ (100 : Int) < (n : Int) := by omega
  have HL9 := Lib.hid (show L.length ≤ 1000000 by have := HN.out; omega)
  clear hB
  obtain ⟨V, hV⟩ : ∃ V, V = leadV (mapL U P R L) x := ⟨_, rfl⟩
  obtain ⟨Y, hY⟩ : ∃ Y, Y = leadB (mapL U P R L) x := ⟨_, rfl⟩
  obtain ⟨f, hf⟩ : ∃ f, f = fault U P R L := ⟨_, rfl⟩
  have HV := Lib.hid (And.intro hV hY)
  have HF := Lib.hid hf
  clear hV hY hf
  go_enter Try.func3, Try.ntmps3
  go_upto_region 1 with fail
  generalize (w.alloc (.cells (sca U P R q n c) 24)).alloc (.cells (eca x) 26) = W0 at *
  have k3 : W0.cell? ⟨w.heap.size, 3, none⟩ = some (.slice q n c) := (cell_of_row _ w.heap.size 3 _ _ _ RS0.out).trans rfl
  go_upto_region 3 with fail
  have HC := Lib.hid (tother_any U P R q n c L HL9.out x W0 (HL.out.below okN HB0.out))
  rw [← HV.out.1, ← HV.out.2] at HC
  clear k3 hBI
  go_wp2_with (first
    | (refine wpList_load_row rfl 24 _ rfl w.heap.size rfl 24 (sca U P R q n c) (0, 0) _ RS0.out Try.underlying24 rfl infoS4 ?_)
    | (refine wpList_load_row rfl 26 _ rfl (w.heap.size + 1) rfl 26 (eca x) (0, 0) _ RE0.out Try.underlying26 rfl infoE ?_)
    | (go_at_call 7; refine HC.out.mono ?_; rintro e W1 ⟨rfl, hb⟩; refine Hid.out ?_))
  have HB1 := Lib.hid (HB0.out.trans (hb.mono HB0.out.size))
  have RS1 := Lib.hid (RS0.out.below hb)
  have RE1 := Lib.hid (RE0.out.below hb)
  obtain ⟨b5, hb5⟩ : ∃ b5, b5 = W1.heap.size := ⟨_, rfl⟩
  clear hb HC RS0 RE0 HB0
  refine Lib.hid ?_
  go_upto_region 4 with (refine wpList_store_row rfl 26 _ _ rfl W1.heap.size (eca V) rfl rfl 26 _ (heap_alloc_new _ _) infoE rfl (eca_one V) ?_; rw [World.setRow_alloc_new])
  have hb := below1 W1 (.cells (eca V) 26)
  have HB2 := Lib.hid (HB1.out.trans (hb.mono HB1.out.size))
  have RS2 := Lib.hid (RS1.out.below hb)
  have RE2 := Lib.hid (RE1.out.below hb)
  have RA2 := Lib.hid (Blk.new W1 (eca V) 26)
  rw [← hb5] at RA2 ⊢
  clear hb hb5 HB1 RS1 RE1
  generalize W1.alloc (.cells (eca V) 26) = W2 at *
  have HC := Lib.hid (rother_any U P R q n c L HL9.out x W2 (HL.out.below okN HB2.out))
  rw [← HV.out.1, ← HV.out.2] at HC
  go_wp2_with (first
    | (refine wpList_load_row rfl 24 _ rfl w.heap.size rfl 24 (sca U P R q n c) (0, 0) _ RS2.out Try.underlying24 rfl infoS4 ?_)
    | (refine wpList_load_row rfl 26 _ rfl (w.heap.size + 1) rfl 26 (eca x) (0, 0) _ RE2.out Try.underlying26 rfl infoE ?_)
    | (go_at_call 8; refine HC.out.mono ?_; rintro e W3 ⟨rfl, hb⟩; refine Hid.out ?_))
  have HB3 := Lib.hid (HB2.out.trans (hb.mono HB2.out.size))
  have RS3 := Lib.hid (RS2.out.below hb)
  have RE3 := Lib.hid (RE2.out.below hb)
  have RA3 := Lib.hid (RA2.out.below hb)
  obtain ⟨b7, hb7⟩ : ∃ b7, b7 = W3.heap.size := ⟨_, rfl⟩
  clear hb HC RS2 RE2 RA2 HB2
  refine Lib.hid ?_
  go_upto_region 5 with (refine wpList_store_row rfl 26 _ _ rfl W3.heap.size (eca V) rfl rfl 26 _ (heap_alloc_new _ _) infoE rfl (eca_one V) ?_; rw [World.setRow_alloc_new])
  have hb := below1 W3 (.cells (eca V) 26)
  have HS := Lib.hid (show TqS w (sca U P R q n c) x V b5 W3.heap.size (W3.alloc (.cells (eca V) 26)) from ⟨RS3.out.below hb, RE3.out.below hb, RA3.out.below hb, Blk.new _ _ _, HB3.out.trans (hb.mono HB3.out.size)⟩)
  rw [← hb7] at HS ⊢
  clear hb hb7 HB3 RS3 RE3 RA3
  generalize W3.alloc (.cells (eca V) 26) = W4 at *
  have heq : ∀ w, (Op.equalIn 10000 26 (.agg (eca V)) (.agg (eca V))).run Try.prog w = .ok true w := fun w => by
    have h1 := eql_end V V w
    rw [decide_eq_true rfl] at h1
    exact h1
  have hgd := guardEnd
  have HA := Lib.hid (fun W => answers12 W)
  have HC1 := Lib.hid (fun (W : World) (h : TqS w (sca U P R q n c) x V b5 b7 W) => tsound_any U P R q n c L HL9.out W (HL.out.below okN h.kept))
  have HC2 := Lib.hid (fun (W : World) (h : TqS w (sca U P R q n c) x V b5 b7 W) => rsetup_any U P R q n c L HLB.out W (HL.out.below okN h.kept))
  rw [← HF.out] at HC1 HC2
  have HS0 := Lib.hid (HS.out.below (Below.refl _ _).drew)
  refine wp_region_held_drew (S := (fun W => TqS w (sca U P R q n c) x V b5 b7 W)) (by kernel_rfl) HS0.out (fun hS => ?_)
  clear HS
  generalize W4.drew = V0 at *
  refine seqCall 0 rfl (by kernel_rfl) rfl (fun K hK => ?_)
  go_simp
  refine (HA.out V0).mono ?_
  rintro e V1 ⟨rfl, hV1⟩
  refine hK.out _ _ (hS.below hV1) (fun hS => ?_)
  clear hK K
  have HS1 := Lib.hid (HS0.out.below hV1)
  clear hV1 HS0
  try simp only [Act.put, List.setIfInBounds_toArray, List.set_cons_zero, List.set_cons_succ]
  refine seqRead 1 (v := _) rfl (by kernel_rfl) (by kernel_rfl) (by kernel_rfl) (fun _ _ _ h => h) rfl (fun w hSw => by go_simp <;> with_reducible rfl) hS ?_
  try simp only [Act.put, List.setIfInBounds_toArray, List.set_cons_zero, List.set_cons_succ]
  refine seqRead 2 (v := _) rfl (by kernel_rfl) (by kernel_rfl) (by kernel_rfl) (fun _ _ _ h => h) rfl (fun w hSw => by go_simp <;> with_reducible rfl) hS ?_
  try simp only [Act.put, List.setIfInBounds_toArray, List.set_cons_zero, List.set_cons_succ]
  refine seqRead 3 (v := _) rfl (by kernel_rfl) (by kernel_rfl) (by kernel_rfl) (fun _ _ _ h => h) rfl (fun w hSw => execRow0 rfl _ rfl hSw.s Try.underlying24 rfl infoS4) hS ?_
  try simp only [Act.put, List.setIfInBounds_toArray, List.set_cons_zero, List.set_cons_succ]
  refine seqRead 5 (v := _) rfl (by kernel_rfl) (by kernel_rfl) (by kernel_rfl) (fun _ _ _ h => h) rfl (fun w hSw => execRow0 rfl _ rfl hSw.s Try.underlying24 rfl infoS4) hS ?_
  try simp only [Act.put, List.setIfInBounds_toArray, List.set_cons_zero, List.set_cons_succ]
  refine seqCall 4 rfl (by kernel_rfl) rfl (fun K hK => ?_)
  go_simp
  refine (HC1.out V1 HS1.out).mono ?_
  rintro e V2 ⟨rfl, hV2⟩
  refine hK.out _ _ (hS.below hV2) (fun hS => ?_)
  clear hK K
  have HS2 := Lib.hid (HS1.out.below hV2)
  clear hV2 HS1
  try simp only [Act.put, List.setIfInBounds_toArray, List.set_cons_zero, List.set_cons_succ]
  refine seqCall 6 rfl (by kernel_rfl) rfl (fun K hK => ?_)
  go_simp
  refine (HC2.out V2 HS2.out).mono ?_
  rintro e V3 ⟨rfl, hV3⟩
  refine hK.out _ _ (hS.below hV3) (fun hS => ?_)
  clear hK K
  have HS3 := Lib.hid (HS2.out.below hV3)
  clear hV3 HS2
  try simp only [Act.put, List.setIfInBounds_toArray, List.set_cons_zero, List.set_cons_succ]
  refine seqRead 7 (v := _) rfl (by kernel_rfl) (by kernel_rfl) (by kernel_rfl) (fun _ _ _ h => h) rfl (fun w hSw => by go_simp <;> with_reducible rfl) hS ?_
  try simp only [Act.put, List.setIfInBounds_toArray, List.set_cons_zero, List.set_cons_succ]
  refine seqRead 8 (v := _) rfl (by kernel_rfl) (by kernel_rfl) (by kernel_rfl) (fun _ _ _ h => h) rfl (fun w hSw => by go_simp <;> with_reducible rfl) hS ?_
  try simp only [Act.put, List.setIfInBounds_toArray, List.set_cons_zero, List.set_cons_succ]
  refine seqRead 9 (v := _) rfl (by kernel_rfl) (by kernel_rfl) (by kernel_rfl) (fun _ _ _ h => h) rfl (fun w hSw => by go_simp <;> with_reducible rfl) hS ?_
  try simp only [Act.put, List.setIfInBounds_toArray, List.set_cons_zero, List.set_cons_succ]
  refine seqRead 10 (v := _) rfl (by kernel_rfl) (by kernel_rfl) (by kernel_rfl) (fun _ _ _ h => h) rfl (fun w hSw => execRow0 rfl _ rfl hSw.a Try.underlying26 rfl infoE) hS ?_
  try simp only [Act.put, List.setIfInBounds_toArray, List.set_cons_zero, List.set_cons_succ]
  refine seqRead 11 (v := _) rfl (by kernel_rfl) (by kernel_rfl) (by kernel_rfl) (fun _ _ _ h => h) rfl (fun w hSw => execRow0 rfl _ rfl hSw.b Try.underlying26 rfl infoE) hS ?_
  try simp only [Act.put, List.setIfInBounds_toArray, List.set_cons_zero, List.set_cons_succ]
  refine seqRead 12 (v := _) rfl (by kernel_rfl) (by kernel_rfl) (by kernel_rfl) (fun _ _ _ h => h) rfl (fun w hSw => by go_simp <;> with_reducible rfl) hS ?_
  try simp only [Act.put, List.setIfInBounds_toArray, List.set_cons_zero, List.set_cons_succ]
  refine seqRead 13 (v := _) rfl (by kernel_rfl) (by kernel_rfl) (by kernel_rfl) (fun _ _ _ h => h) rfl (fun w hSw => by go_simp <;> with_reducible rfl) hS ?_
  try simp only [Act.put, List.setIfInBounds_toArray, List.set_cons_zero, List.set_cons_succ]
  refine seqRead 14 (v := _) rfl (by kernel_rfl) (by kernel_rfl) (by kernel_rfl) (fun _ _ _ h => h) rfl (fun w hSw => by go_simp <;> with_reducible rfl) hS ?_
  try simp only [Act.put, List.setIfInBounds_toArray, List.set_cons_zero, List.set_cons_succ]
  refine seqRead 15 (v := _) rfl (by kernel_rfl) (by kernel_rfl) (by kernel_rfl) (fun _ _ _ h => h) rfl (fun w hSw => by go_simp <;> with_reducible rfl) hS ?_
  try simp only [Act.put, List.setIfInBounds_toArray, List.set_cons_zero, List.set_cons_succ]
  refine seqRead 16 (v := _) rfl (by kernel_rfl) (by kernel_rfl) (by kernel_rfl) (fun _ _ _ h => h) rfl (fun w hSw => by go_simp <;> with_reducible rfl) hS ?_
  try simp only [Act.put, List.setIfInBounds_toArray, List.set_cons_zero, List.set_cons_succ]
  refine seqRead 17 (v := _) rfl (by kernel_rfl) (by kernel_rfl) (by kernel_rfl) (fun _ _ _ h => h) rfl (fun w hSw => by go_simp <;> with_reducible rfl) hS ?_
  try simp only [Act.put, List.setIfInBounds_toArray, List.set_cons_zero, List.set_cons_succ]
  refine seqRead 18 (v := _) rfl (by kernel_rfl) (by kernel_rfl) (by kernel_rfl) (fun _ _ _ h => h) rfl (fun w hSw => by go_simp <;> with_reducible rfl) hS ?_
  try simp only [Act.put, List.setIfInBounds_toArray, List.set_cons_zero, List.set_cons_succ]
  refine seqDone (by kernel_rfl) ?_
  clear hS heq hgd HA HC1 HC2
  go_upto_region 7 with fail
  have HC := Lib.hid (tedges_any U P R q n c L HL9.out V3 (HL.out.below okN HS3.out.kept))
  go_wp2_with (first
    | (refine wpList_load_row rfl 24 _ rfl w.heap.size rfl 24 (sca U P R q n c) (0, 0) _ HS3.out.s Try.underlying24 rfl infoS4 ?_)
    | (go_at_call 11; refine HC.out.mono ?_; rintro e W5 ⟨v, rfl, ho, hb⟩; refine Hid.out ?_))
  have HS := Lib.hid (show TrS w (sca U P R q n c) V3.heap.size v (edgL U P R L) W5 from ⟨HS3.out.s.below hb, ho, HS3.out.kept.trans (hb.mono HS3.out.kept.size)⟩)
  obtain ⟨B, hB⟩ : ∃ B, B = V3.heap.size := ⟨_, rfl⟩
  rw [← hB] at HS
  obtain ⟨p9, c9, rfl⟩ := ho.form
  have HE := Lib.hid (edg_len_le U P R L)
  clear hb ho hB HC HS3
  have HC := Lib.hid (rsetup_any U P R q n c L HLB.out W5 (HL.out.below okN HS.out.kept))
  rw [← HF.out] at HC
  by_cases hf0 : f = 0
  rotate_left
  · have hE : edgL U P R L = [] := by unfold edgL; rw [if_neg (by rw [← HF.out]; exact hf0)]
    rw [hE] at HS ⊢
    refine Lib.hid ?_
    go_wp2_with (first
      | (refine wpList_load_row rfl 24 _ rfl w.heap.size rfl 24 (sca U P R q n c) (0, 0) _ HS.out.s Try.underlying24 rfl infoS4 ?_)
      | (go_at_call 10; refine HC.out.mono ?_; rintro e W6 ⟨rfl, hb⟩; refine Hid.out ?_))
    have HB6 := Lib.hid (HS.out.kept.trans (hb.mono HS.out.kept.size))
    clear hb HC HS hE
    refine Lib.hid ?_
    go_wp2_with fail
    go_ret
    exact ⟨rfl, HB6.out⟩
  subst hf0
  obtain ⟨hr, _, _⟩ := fault_zero HF.out.symm
  simp only [rangeB, Bool.and_eq_true, decide_eq_true_eq] at hr
  have HU := Lib.hid (show U.toNat ≤ 8 ∧ P.toNat ≤ 16 ∧ (U.toNat : Int) = U ∧ (P.toNat : Int) = P by omega)
  clear hr
  obtain ⟨u, hu⟩ : ∃ u, u = U.toNat := ⟨_, rfl⟩
  obtain ⟨p, hp⟩ : ∃ p, p = P.toNat := ⟨_, rfl⟩
  have HEE := Lib.hid (show edgL U P R L = gridD (pairsL L) p u by unfold edgL; rw [← HF.out, if_pos rfl, hu, hp])
  have HMp := Lib.hid (show mapL U P R L = pairsL L by unfold mapL; rw [← HF.out, if_pos rfl])
  rw [← hu, ← hp] at HU
  rw [HEE.out] at HS HE ⊢
  have HRO := Lib.hid (fun (y : En) (W : World) (h : Below w.heap.size w W) => rother_any U P R q n c L HL9.out y W (HL.out.below okN h))
  rw [HMp.out] at HRO
  generalize pairsL L = D at *
  rw [← HU.out.2.2.1, ← HU.out.2.2.2] at HS HC HRO
  obtain ⟨E, hE⟩ : ∃ E, E = gridD D p u := ⟨_, rfl⟩
  rw [← hE] at HS HE ⊢
  have HGE := Lib.hid hE
  obtain ⟨m, hm⟩ : ∃ m, m = E.length := ⟨_, rfl⟩
  rw [← hm] at HS ⊢
  have HM := Lib.hid hm
  clear hu hp hE hm HEE HMp HV
  refine Lib.hid ?_
  go_wp2_with (first
    | (refine wpList_load_row rfl 24 _ rfl w.heap.size rfl 24 (sca (u : Int) (p : Int) R q n c) (0, 0) _ HS.out.s Try.underlying24 rfl infoS4 ?_)
    | (go_at_call 10; refine HC.out.mono ?_; rintro e W6 ⟨rfl, hb⟩; refine Hid.out ?_))
  have HS6 := Lib.hid (HS.out.below hb)
  clear hb HC HS
  refine Lib.hid ?_
  go_wp2_with fail
  go_loopg [11, 10] u (fun q11 s11 s10 wr => ∃ k : Nat, k + q11 = u ∧ s11 = .int .i64 k ∧ s10 = .int .i64 (((gridD D p k).length : Nat) : Int) ∧ TrS w (sca (u : Int) (p : Int) R q n c) B (.slice p9 m c9) E wr)
  case atStart => exact ⟨0, by omega, rfl, rfl, HS6.out⟩
  case round =>
    clear HS6
    obtain ⟨k, hk, rfl, rfl, hs⟩ := hrel
    have HS := Lib.hid hs
    have HK := Lib.hid hk
    clear hs
    have k0 : wr.cell? ⟨w.heap.size, 0, none⟩ = some (.int .i64 (u : Int)) := (cell_of_row _ w.heap.size 0 _ _ _ HS.out.s).trans rfl
    by_cases hlt : k < u
    · have hltI : (k : Int) < (u : Int) := by omega
      generalize hGk : (gridD D p k).length = gk at *
      go_wp2_with fail
      clear k0
      go_loopg [12, 10] p (fun q12 s12 s10 W => ∃ j : Nat, j + q12 = p ∧ s12 = .int .i64 ((j : Int) + 1) ∧ s10 = .int .i64 (((gridD D p k ++ rowD D k j).length : Nat) : Int) ∧ TrS w (sca (u : Int) (p : Int) R q n c) B (.slice p9 m c9) E W)
      case atStart => exact ⟨0, by omega, rfl, by rw [row0, List.append_nil, hGk], HS.out⟩
      case round =>
        clear HS hGk
        obtain ⟨j, hj, rfl, rfl, hs⟩ := hrel
        have HS := Lib.hid hs
        have HJ := Lib.hid hj
        clear hs
        have k1 : wr.cell? ⟨w.heap.size, 1, none⟩ = some (.int .i64 (p : Int)) := (cell_of_row _ w.heap.size 1 _ _ _ HS.out.s).trans rfl
        have HST := Lib.hid (rowD_step D k j)
        by_cases hjl : j < p
        · have hjI : (j : Int) + 1 ≤ (p : Int) := by omega
          have HNX := Lib.hid (fun h => grid_next D hlt hjl h)
          rw [← HGE.out] at HNX
          obtain ⟨b13, hb13⟩ : ∃ b13, b13 = wr.heap.size := ⟨_, rfl⟩
          obtain ⟨y, hy⟩ : ∃ y : En, y = ((k : Int), (j : Int) + 1) := ⟨_, rfl⟩
          have HYY := Lib.hid hy
          rw [← hy] at HST HNX
          clear hy
          have hj9 : j < 1000 := by have := HU.out; omega
          generalize hG : (gridD D p k ++ rowD D k j).length = g at *
          have HG := Lib.hid hG
          clear hG
          go_upto_region 18 with (refine wpList_store_row rfl 26 _ _ rfl wr.heap.size #[.int .i64 (k : Int), .int .i64 ((j : Int) + 1)] rfl rfl 26 _ (heap_alloc_new _ _) infoE rfl (eca_one ((k : Int), (j : Int) + 1)) ?_; rw [World.setRow_alloc_new])
          have HS1 := Lib.hid (HS.out.below (below1 wr (.cells #[.int .i64 (k : Int), .int .i64 ((j : Int) + 1)] 26)))
          have RX := Lib.hid (show Blk wr.heap.size (eca y) 26 (wr.alloc (.cells #[.int .i64 (k : Int), .int .i64 ((j : Int) + 1)] 26)) by rw [HYY.out]; exact Blk.new _ _ _)
          rw [← hb13] at RX ⊢
          clear HS k1 hb13
          generalize wr.alloc (.cells #[.int .i64 (k : Int), .int .i64 ((j : Int) + 1)] 26) = W7 at *
          have HC := Lib.hid (HRO.out y W7 HS1.out.kept)
          obtain ⟨yv, hyv⟩ : ∃ yv, yv = leadV D y := ⟨_, rfl⟩
          obtain ⟨yb, hyb⟩ : ∃ yb, yb = leadB D y := ⟨_, rfl⟩
          rw [← hyv, ← hyb] at HC
          rw [← hyb] at HST HNX
          clear hyv hyb
          go_wp2_with (first
            | (refine wpList_load_row rfl 24 _ rfl w.heap.size rfl 24 (sca (u : Int) (p : Int) R q n c) (0, 0) _ HS1.out.s Try.underlying24 rfl infoS4 ?_)
            | (refine wpList_load_row rfl 26 _ rfl b13 rfl 26 (eca y) (0, 0) _ RX.out Try.underlying26 rfl infoE ?_)
            | (go_at_call 8; refine HC.out.mono ?_; rintro e W8 ⟨rfl, hb⟩; refine Hid.out ?_))
          have HS2 := Lib.hid (HS1.out.below hb)
          have RX2 := Lib.hid (RX.out.below hb)
          clear hb HC HS1 RX
          refine Lib.hid ?_
          go_upto_region 19 with (refine wpList_store_row rfl 26 _ _ rfl W8.heap.size (eca yv) rfl rfl 26 _ (heap_alloc_new _ _) infoE rfl (eca_one yv) ?_; rw [World.setRow_alloc_new])
          have HS3 := Lib.hid (HS2.out.below (below1 W8 (.cells (eca yv) 26)))
          have RX3 := Lib.hid (RX2.out.below (below1 W8 (.cells (eca yv) 26)))
          clear HS2 RX2
          generalize W8.alloc (.cells (eca yv) 26) = W9 at *
          cases yb with
          | true =>
            have HLN := Lib.hid (show (gridD D p k ++ rowD D k (j + 1)).length = g by rw [HST.out, ← HG.out]; simp)
            clear RX3 HST HNX
            go_wp2_with fail
            go_roundg (p - (j + 1))
            case measure => omega
            case rel => exact ⟨j + 1, by omega, by go_num, by rw [HLN.out], HS3.out⟩
          | false =>
            have hat : E[g]? = some y := HNX.out rfl
            have hgm : g < m := by rw [HM.out]; exact (List.getElem?_eq_some_iff.1 hat).1
            have hgI : ¬ (g : Int) ≥ (m : Int) := by omega
            have hgI2 : ¬ (m : Int) ≤ (g : Int) := by omega
            have hdI : decide ((g : Int) < (m : Int)) = true := decide_eq_true (by omega)
            have hg9 : g < 1000 := by have := HE.out; have := HM.out; omega
            have HAT := Lib.hid hat
            obtain ⟨bb, o, rfl, _⟩ := (HS3.out.o.lies okE).at hat
            have HLN := Lib.hid (show (gridD D p k ++ rowD D k (j + 1)).length = g + 1 by
              rw [HST.out, ← HG.out]
              simp
              omega)
            have heq : ∀ w, (Op.equalIn 10000 26 (.agg (ecl y).toArray) (.agg (eca y))).run Try.prog w = .ok true w := fun w => by
              have h1 := eql_end y y w
              rw [decide_eq_true rfl] at h1
              exact h1
            have hgd := guardEnd
            clear hat HST HNX
            go_upto_region 20 with fail
            refine wp_region_held_drew (S := (fun W => TrS w (sca (u : Int) (p : Int) R q n c) B (.slice (some ⟨bb, o, none⟩) m c9) E W ∧ Blk b13 (eca y) 26 W)) (by kernel_rfl) ⟨HS3.out.below (Below.refl _ _).drew, RX3.out.drew⟩ (fun hS => ?_)
            clear HS3 RX3
            generalize W9.drew = V9 at *
            refine seqRead 0 (v := _) rfl (by kernel_rfl) (by kernel_rfl) (by kernel_rfl) (fun _ _ _ h => h) rfl (fun w hSw => by go_simp <;> with_reducible rfl) hS ?_
            try simp only [Act.put, List.setIfInBounds_toArray, List.set_cons_zero, List.set_cons_succ]
            refine seqRead 1 (v := _) rfl (by kernel_rfl) (by kernel_rfl) (by kernel_rfl) (fun _ _ _ h => h) rfl (fun w hSw => by go_simp <;> with_reducible rfl) hS ?_
            try simp only [Act.put, List.setIfInBounds_toArray, List.set_cons_zero, List.set_cons_succ]
            refine seqRead 2 (v := _) rfl (by kernel_rfl) (by kernel_rfl) (by kernel_rfl) (fun _ _ _ h => h) rfl (fun w hSw => by go_simp <;> with_reducible rfl) hS ?_
            try simp only [Act.put, List.setIfInBounds_toArray, List.set_cons_zero, List.set_cons_succ]
            refine seqRead 3 (v := _) rfl (by kernel_rfl) (by kernel_rfl) (by kernel_rfl) (fun _ _ _ h => h) rfl (fun w hSw => by go_simp <;> with_reducible rfl) hS ?_
            try simp only [Act.put, List.setIfInBounds_toArray, List.set_cons_zero, List.set_cons_succ]
            refine seqRead 4 (v := _) rfl (by kernel_rfl) (by kernel_rfl) (by kernel_rfl) (fun _ _ _ h => h) rfl (fun w hSw => by go_simp <;> with_reducible rfl) hS ?_
            try simp only [Act.put, List.setIfInBounds_toArray, List.set_cons_zero, List.set_cons_succ]
            refine seqRead 5 (v := _) rfl (by kernel_rfl) (by kernel_rfl) (by kernel_rfl) (fun _ _ _ h => h) rfl (fun w hSw => by go_simp <;> with_reducible rfl) hS ?_
            try simp only [Act.put, List.setIfInBounds_toArray, List.set_cons_zero, List.set_cons_succ]
            refine seqRead 6 (v := _) rfl (by kernel_rfl) (by kernel_rfl) (by kernel_rfl) (fun _ _ _ h => h) rfl (fun w hSw => by go_simp <;> with_reducible rfl) hS ?_
            try simp only [Act.put, List.setIfInBounds_toArray, List.set_cons_zero, List.set_cons_succ]
            refine seqRead 7 (v := _) rfl (by kernel_rfl) (by kernel_rfl) (by kernel_rfl) (fun _ _ _ h => h) rfl (fun w hSw => by go_simp <;> with_reducible rfl) hS ?_
            try simp only [Act.put, List.setIfInBounds_toArray, List.set_cons_zero, List.set_cons_succ]
            refine seqRead 8 (v := _) rfl (by kernel_rfl) (by kernel_rfl) (by kernel_rfl) (fun _ _ _ h => h) rfl (fun w hSw => execRow rfl bb (o + g * 2) rfl (ecl y) _ ((hSw.1.o.lies okE).at' HAT.out) Try.underlying26 rfl infoE) hS ?_
            try simp only [Act.put, List.setIfInBounds_toArray, List.set_cons_zero, List.set_cons_succ]
            refine seqRead 9 (v := _) rfl (by kernel_rfl) (by kernel_rfl) (by kernel_rfl) (fun _ _ _ h => h) rfl (fun w hSw => execRow0 rfl _ rfl hSw.2 Try.underlying26 rfl infoE) hS ?_
            try simp only [Act.put, List.setIfInBounds_toArray, List.set_cons_zero, List.set_cons_succ]
            refine seqRead 10 (v := _) rfl (by kernel_rfl) (by kernel_rfl) (by kernel_rfl) (fun _ _ _ h => h) rfl (fun w hSw => by go_simp <;> with_reducible rfl) hS ?_
            try simp only [Act.put, List.setIfInBounds_toArray, List.set_cons_zero, List.set_cons_succ]
            refine seqRead 11 (v := _) rfl (by kernel_rfl) (by kernel_rfl) (by kernel_rfl) (fun _ _ _ h => h) rfl (fun w hSw => by go_simp <;> with_reducible rfl) hS ?_
            try simp only [Act.put, List.setIfInBounds_toArray, List.set_cons_zero, List.set_cons_succ]
            refine seqDone (by kernel_rfl) ?_
            have HS4 := Lib.hid hS.1
            clear hS heq hgd
            go_wp2_with fail
            go_roundg (p - (j + 1))
            case measure => omega
            case rel => exact ⟨j + 1, by omega, by go_num, by rw [HLN.out]; go_num, HS4.out⟩
        · have hjI : ¬ (j : Int) + 1 ≤ (p : Int) := by omega
          have hjp : j = p := by have := HJ.out; omega
          have HLN := Lib.hid (show (gridD D p k ++ rowD D k j).length = (gridD D p (k + 1)).length by rw [gridD_step, hjp])
          have hk9 : k < 1000 := by have := HU.out; omega
          clear HST
          generalize hG : (gridD D p k ++ rowD D k j).length = g at *
          clear hG
          go_wp2_with fail
          go_roundg (u - (k + 1))
          case measure => omega
          case rel => exact ⟨k + 1, by omega, by go_num, by rw [HLN.out], HS.out⟩
    · have hltI : ¬ (k : Int) < (u : Int) := by omega
      have hku : k = u := by have := HK.out; omega
      have hgm : (gridD D p k).length = m := by rw [HM.out, HGE.out, hku]
      rw [hgm]
      clear hgm
      go_wp2_with fail
      go_ret
      exact ⟨rfl, HS.out.kept⟩
end Go.Proofs.Ytgmfmmabegcocaa
