/-
  others.
-/
import Derived.Test.YtgmfmmabegcocaaTopFun
namespace Go.Proofs.Ytgmfmmabegcocaa
set_option maxRecDepth 20000
open Go.RowKit

/-- what others gives -/
def OthRet (U P R : Int) (L : List Ln) (w : World) (e : Ending) (w' : World) : Prop :=
  ∃ m, e = .returned (.tuple #[m, .int .i64 (fault U P R L)]) ∧ MapAt m (mapL U P R L) w' ∧ Below w.heap.size w w'
/-- what the loop holds -/
structure OtS (w0 : World) (sc : Array Value) (bm : Nat) (v : Value) (L : List Ln) (D : List (En × En)) (W : World) : Prop where
  s : Blk w0.heap.size sc 24 W
  m : EMap bm D W
  l : KLies KN v L W
  kept : Below w0.heap.size w0 W
  new : w0.heap.size < bm
section
variable {w0 W W' : World} {sc : Array Value} {bm : Nat} {v : Value} {L : List Ln} {D D' : List (En × En)}
theorem OtS.below (h : OtS w0 sc bm v L D W) (hb : Below W.heap.size W W') : OtS w0 sc bm v L D W' := ⟨h.s.below hb, h.m.below hb, h.l.below okN hb, h.kept.trans (hb.mono h.kept.size), h.new⟩
theorem EMap.notCells {b : Nat} {cs : Array Value} {t : TypeId} {g : Nat} (h : EMap b D W) (hb : Blk g cs t W) : g ≠ b := fun e => by
  obtain ⟨es, clock, hm, _⟩ := h
  subst e
  have hb' : W.heap[g]? = some (.cells cs t (0, 0)) := hb
  rw [hm] at hb'
  cases hb'
theorem Blk.mapped {b : Nat} {cs : Array Value} {t : TypeId} {g : Nat} (hb : Blk g cs t W) (h : EMap b D W) (hg : W.grownBy W' (some b)) : Blk g cs t W' :=
  (hg.block g hb.lt (fun e => h.notCells hb (Option.some.inj e))).trans hb
theorem cell_map {es : Array MapEntry} {clock : Nat} {b o : Nat} (h : W.heap[b]? = some (.map es clock)) : W.cell? ⟨b, o, none⟩ = none := by
  simp [World.cell?, h]
theorem KLies.mapped {α : Type} {K : Kd α} {l : List α} (hl : KLies K v l W) {b : Nat} (h : EMap b D W) (hg : W.grownBy W' (some b)) : KLies K v l W' := by
  rcases hl with hl | ⟨ad, cp, e1, e2, e3⟩
  · exact .inl hl
  · refine .inr ⟨ad, cp, e1, e2, fun i a hi => ⟨(e3 i a hi).1, fun j u hu => ?_⟩⟩
    have h1 := (e3 i a hi).2 j u hu
    refine hg.cell h1 (fun e => ?_)
    injection e with e
    have e : ad.block = b := e
    obtain ⟨es, clock, hm, _⟩ := h
    rw [e, cell_map hm] at h1
    cases h1
theorem OtS.put (h : OtS w0 sc bm v L D W) (hm : EMap bm D' W') (hg : W.grownBy W' (some bm)) : OtS w0 sc bm v L D' W' :=
  ⟨h.s.mapped h.m hg, hm, h.l.mapped h.m hg, h.kept.grown hg h.kept.size (fun k e => by injection e with e; have := h.new; omega), h.new⟩
end
theorem rngA {W : World} {bl : Nat} {x : Ln} {t : TypeId} (h : Blk bl (lca x) t W) : W.rangeAt bl 0 (ecl x.1) := fun j u hu => by
  have hj : j < 2 := (List.getElem?_eq_some_iff.1 hu).1
  refine (cell_of_row W bl (0 + j) _ _ _ h).trans ?_
  match j, hj with
  | 0, _ => exact hu
  | 1, _ => exact hu
theorem rngB {W : World} {bl : Nat} {x : Ln} {t : TypeId} (h : Blk bl (lca x) t W) : W.rangeAt bl 2 (ecl x.2) := fun j u hu => by
  have hj : j < 2 := (List.getElem?_eq_some_iff.1 hu).1
  refine (cell_of_row W bl (2 + j) _ _ _ h).trans ?_
  match j, hj with
  | 0, _ => exact hu
  | 1, _ => exact hu
theorem OtS.drew {w0 W : World} {sc : Array Value} {bm : Nat} {v : Value} {L : List Ln} {D : List (En × En)} (h : OtS w0 sc bm v L D W) : OtS w0 sc bm v L D W.drew := h.below (Below.refl _ _).drew
theorem oth_map {m : Value} {U P R : Int} {L : List Ln} {w : World} (h : fault U P R L ≠ 0) (hm : m = .map none) : MapAt m (mapL U P R L) w := .inl ⟨hm, by unfold mapL; rw [if_neg h]⟩
set_option maxRecDepth 100000 in
set_option maxHeartbeats 8000000 in
theorem others_any (U P R : Int) (q : Option Addr) (n c : Nat) (L : List Ln) (hlen : L.length ≤ 1000000) (w : World) (hl : KLies KN (.slice q n c) L w) :
    Calls Try.prog 12 #[.agg (sca U P R q n c)] w (OthRet U P R L w) := by
  obtain ⟨q', c', e'⟩ := hl.form
  injection e' with e1 e2 e3
  subst e2
  clear e1 e3
  obtain ⟨n, hn⟩ : ∃ n, n = L.length := ⟨_, rfl⟩
  rw [← hn] at hl hlen ⊢
  have HN := Lib.hid hn
  clear hn
  have HB0 := Lib.hid (below1 w (.cells (sca U P R q n c) 24))
  have RS0 := Lib.hid (Blk.new w (sca U P R q n c) 24)
  have HL := Lib.hid hl
  have HC := Lib.hid (inRange_any U P R q n c (w.alloc (.cells (sca U P R q n c) 24)))
  clear hl
  have hmm := @run_makeMap Try.prog
  cases hr : rangeB U P R with
  | false =>
    have HF := Lib.hid (fault_range (L := L) hr)
    rw [hr] at HC
    clear hr
    go_enter Try.func12, Try.ntmps12
    go_wp2_with (first
      | (refine wpList_load_row rfl 24 _ rfl w.heap.size rfl 24 (sca U P R q n c) (0, 0) _ RS0.out Try.underlying24 rfl infoS4 ?_)
      | (go_at_call 13; refine HC.out.mono ?_; rintro e W1 ⟨rfl, hb⟩; refine Hid.out ?_))
    have HB1 := Lib.hid (HB0.out.trans (hb.mono HB0.out.size))
    clear hb HC RS0 HB0
    refine Lib.hid ?_
    go_wp2_with fail
    go_ret2
    exact ⟨.map none, by rw [HF.out]; rfl, oth_map (by rw [HF.out]; decide) rfl, HB1.out⟩
  | true =>
    have HR := Lib.hid hr
    rw [hr] at HC
    clear hr
    go_enter Try.func12, Try.ntmps12
    go_wp2_with (first
      | (refine wpList_load_row rfl 24 _ rfl w.heap.size rfl 24 (sca U P R q n c) (0, 0) _ RS0.out Try.underlying24 rfl infoS4 ?_)
      | (go_at_call 13; refine HC.out.mono ?_; rintro e W1 ⟨rfl, hb⟩; refine Hid.out ?_))
    have HB1 := Lib.hid (HB0.out.trans (hb.mono HB0.out.size))
    have HB2 := Lib.hid (below1 W1 (.map #[] 0))
    have HS := Lib.hid (show OtS w (sca U P R q n c) W1.heap.size (.slice q n c) L [] (W1.alloc (.map #[] 0)) from
      ⟨(RS0.out.below hb).below HB2.out, EMap.made W1, (HL.out.below okN HB1.out).below okN HB2.out, HB1.out.trans (HB2.out.mono HB1.out.size), by have := hb.size; have := RS0.out.lt; omega⟩)
    have k3 : (W1.alloc (.map #[] 0)).cell? ⟨w.heap.size, 3, none⟩ = some (.slice q n c) := (cell_of_row _ w.heap.size 3 _ _ _ HS.out.s).trans rfl
    obtain ⟨bm, hbm⟩ : ∃ bm, bm = W1.heap.size := ⟨_, rfl⟩
    clear hb HC RS0 HB0 HB1 HB2 HL
    refine Lib.hid ?_
    go_upto_region 4 with fail
    rw [← hbm] at HS ⊢
    clear hbm
    generalize W1.alloc (.map #[] 0) = W2 at *
    go_wp2_with fail
    clear k3
    go_loopg [14] n (fun k s14 wr => ∃ r : Nat, r + k = n ∧ s14 = .int .i64 r ∧ (∀ e ∈ endsL (L.take r), portB U P e = true) ∧ (endsL (L.take r)).Nodup ∧ OtS w (sca U P R q n c) bm (.slice q n c) L (pairsL (L.take r)) wr)
    case atStart => exact ⟨0, by omega, rfl, fun e he => (by cases he), List.nodup_nil, HS.out⟩
    case round =>
      clear HS
      obtain ⟨r, hr, rfl, hp, hd, hs⟩ := hrel
      have HS := Lib.hid hs
      have HP := Lib.hid hp
      have HD := Lib.hid hd
      clear hs hp hd
      by_cases hlt : r < n
      · have hltI : (r : Int) < (n : Int) := by omega
        obtain ⟨x, hx⟩ := lt_some (l := L) (i := r) (by have := HN.out; omega)
        have HX := Lib.hid hx
        obtain ⟨bb, o, rfl, hrg⟩ := HS.out.l.at hx
        have HRG := Lib.hid hrg
        have hb1 := below1 wr (.cells (lca x) 36)
        have HS1 := Lib.hid (HS.out.below hb1)
        have RL1 := Lib.hid (Blk.new wr (lca x) 36)
        obtain ⟨bl, hbl⟩ : ∃ bl, bl = wr.heap.size := ⟨_, rfl⟩
        clear hx hrg hb1
        go_upto_region 7 with (first
          | (refine wpList_load_mid rfl 36 _ rfl bb (o + r * 4) rfl (lcl x) _ HRG.out Try.underlying36 rfl infoN ?_)
          | (refine wpList_store_row rfl 36 _ _ rfl wr.heap.size (lca x) rfl rfl 36 _ (heap_alloc_new _ _) infoN rfl (lca_one x) ?_; rw [World.setRow_alloc_new]))
        rw [← hbl] at RL1 ⊢
        clear HRG HS hbl
        generalize wr.alloc (.cells (lca x) 36) = W3 at *
        have RA := Lib.hid (rngA RL1.out)
        have RB := Lib.hid (rngB RL1.out)
        have HC1 := Lib.hid (isPort_any U P R (some ⟨bb, o, none⟩) n c x.1 W3)
        cases hA : portB U P x.1 with
        | false =>
          have HF := Lib.hid (fault_port HR.out (mem_ends HX.out).1 hA)
          rw [hA] at HC1
          clear hA
          go_wp2_with (first
            | (refine wpList_load_row rfl 24 _ rfl w.heap.size rfl 24 (sca U P R (some ⟨bb, o, none⟩) n c) (0, 0) _ HS1.out.s Try.underlying24 rfl infoS4 ?_)
            | (refine wpList_load_mid rfl 26 _ rfl bl 0 rfl (ecl x.1) _ RA.out Try.underlying26 rfl infoE ?_)
            | (go_at_call 14; refine HC1.out.mono ?_; rintro e W4 ⟨rfl, hb⟩; refine Hid.out ?_))
          have HB4 := Lib.hid (HS1.out.kept.trans (hb.mono HS1.out.kept.size))
          clear hb HC1 RA RB RL1 HS1
          refine Lib.hid ?_
          go_wp2_with fail
          go_ret2
          exact ⟨.map none, by rw [HF.out]; rfl, oth_map (by rw [HF.out]; decide) rfl, HB4.out⟩
        | true =>
          rw [hA] at HC1
          have HA := Lib.hid hA
          clear hA
          go_wp2_with (first
            | (refine wpList_load_row rfl 24 _ rfl w.heap.size rfl 24 (sca U P R (some ⟨bb, o, none⟩) n c) (0, 0) _ HS1.out.s Try.underlying24 rfl infoS4 ?_)
            | (refine wpList_load_mid rfl 26 _ rfl bl 0 rfl (ecl x.1) _ RA.out Try.underlying26 rfl infoE ?_)
            | (go_at_call 14; refine HC1.out.mono ?_; rintro e W4 ⟨rfl, hb⟩; refine Hid.out ?_))
          have HS2 := Lib.hid (HS1.out.below hb)
          have RL2 := Lib.hid (RL1.out.below hb)
          have RB2 := Lib.hid (show W4.rangeAt bl 2 (ecl x.2) from rngB (RL1.out.below hb))
          have HC2 := Lib.hid (isPort_any U P R (some ⟨bb, o, none⟩) n c x.2 W4)
          clear hb HC1 RA RB RL1 HS1
          cases hB : portB U P x.2 with
          | false =>
            have HF := Lib.hid (fault_port HR.out (mem_ends HX.out).2 hB)
            rw [hB] at HC2
            clear hB
            refine Lib.hid ?_
            go_wp2_with (first
              | (refine loadRowG rfl 24 _ rfl w.heap.size rfl 24 (sca U P R (some ⟨bb, o, none⟩) n c) (0, 0) HS2.out.s Try.underlying24 rfl infoS4 ?_)
              | (refine loadMidG rfl 26 _ rfl bl 2 rfl (ecl x.2) _ RB2.out Try.underlying26 rfl infoE ?_)
              | (go_at_call 14; refine HC2.out.mono ?_; rintro e W5 ⟨rfl, hb⟩; refine Hid.out ?_))
            have HB5 := Lib.hid (HS2.out.kept.trans (hb.mono HS2.out.kept.size))
            clear hb HC2 RB2 RL2 HS2
            refine Lib.hid ?_
            go_wp2_with fail
            go_ret2
            exact ⟨.map none, by rw [HF.out]; rfl, oth_map (by rw [HF.out]; decide) rfl, HB5.out⟩
          | true =>
            have HBt := Lib.hid hB
            rw [hB] at HC2
            clear hB
            refine Lib.hid ?_
            go_wp2_with (first
              | (refine loadRowG rfl 24 _ rfl w.heap.size rfl 24 (sca U P R (some ⟨bb, o, none⟩) n c) (0, 0) HS2.out.s Try.underlying24 rfl infoS4 ?_)
              | (refine loadMidG rfl 26 _ rfl bl 2 rfl (ecl x.2) _ RB2.out Try.underlying26 rfl infoE ?_)
              | (go_at_call 14; refine HC2.out.mono ?_; rintro e W5 ⟨rfl, hb⟩; refine Hid.out ?_))
            have HS3 := Lib.hid (HS2.out.below hb)
            have RL3 := Lib.hid (RL2.out.below hb)
            clear hb HC2 RB2 RL2 HS2
            refine Lib.hid ?_
            go_upto_region 9 with fail
            have HT0 := Lib.hid HS3.out.drew
            refine wp_region_held_drew (S := (fun W => Blk bl (lca x) 36 W)) (by kernel_rfl) RL3.out.drew (fun hS => ?_)
            clear HS3
            generalize W5.drew = V0 at *
            refine seqRead 0 (v := _) rfl (by kernel_rfl) (by kernel_rfl) (by kernel_rfl) (fun _ _ _ h => h) rfl (fun w hSw => by go_simp <;> with_reducible rfl) hS ?_
            try simp only [Act.put, List.setIfInBounds_toArray, List.set_cons_zero, List.set_cons_succ]
            refine seqRead 1 (v := _) rfl (by kernel_rfl) (by kernel_rfl) (by kernel_rfl) (fun _ _ _ h => h) rfl (fun w hSw => by go_simp <;> with_reducible rfl) hS ?_
            try simp only [Act.put, List.setIfInBounds_toArray, List.set_cons_zero, List.set_cons_succ]
            refine seqRead 2 (v := _) rfl (by kernel_rfl) (by kernel_rfl) (by kernel_rfl) (fun _ _ _ h => h) rfl (fun w hSw => execRow rfl bl 0 rfl (ecl x.1) _ (rngA hSw) Try.underlying26 rfl infoE) hS ?_
            try simp only [Act.put, List.setIfInBounds_toArray, List.set_cons_zero, List.set_cons_succ]
            refine seqRead 3 (v := _) rfl (by kernel_rfl) (by kernel_rfl) (by kernel_rfl) (fun _ _ _ h => h) rfl (fun w hSw => by go_simp <;> with_reducible rfl) hS ?_
            try simp only [Act.put, List.setIfInBounds_toArray, List.set_cons_zero, List.set_cons_succ]
            refine seqRead 4 (v := _) rfl (by kernel_rfl) (by kernel_rfl) (by kernel_rfl) (fun _ _ _ h => h) rfl (fun w hSw => by go_simp <;> with_reducible rfl) hS ?_
            try simp only [Act.put, List.setIfInBounds_toArray, List.set_cons_zero, List.set_cons_succ]
            refine seqRead 5 (v := _) rfl (by kernel_rfl) (by kernel_rfl) (by kernel_rfl) (fun _ _ _ h => h) rfl (fun w hSw => execRow rfl bl 2 rfl (ecl x.2) _ (rngB hSw) Try.underlying26 rfl infoE) hS ?_
            try simp only [Act.put, List.setIfInBounds_toArray, List.set_cons_zero, List.set_cons_succ]
            refine seqRead 6 (v := _) rfl (by kernel_rfl) (by kernel_rfl) (by kernel_rfl) (fun _ _ _ h => h) rfl (fun w hSw => by go_simp <;> with_reducible rfl) hS ?_
            try simp only [Act.put, List.setIfInBounds_toArray, List.set_cons_zero, List.set_cons_succ]
            refine seqRead 7 (v := _) rfl (by kernel_rfl) (by kernel_rfl) (by kernel_rfl) (fun _ _ _ h => h) rfl (fun w hSw => execRow rfl bl 2 rfl (ecl x.2) _ (rngB hSw) Try.underlying26 rfl infoE) hS ?_
            try simp only [Act.put, List.setIfInBounds_toArray, List.set_cons_zero, List.set_cons_succ]
            refine seqRead 8 (v := _) rfl (by kernel_rfl) (by kernel_rfl) (by kernel_rfl) (fun _ _ _ h => h) rfl (fun w hSw => by go_simp <;> with_reducible rfl) hS ?_
            try simp only [Act.put, List.setIfInBounds_toArray, List.set_cons_zero, List.set_cons_succ]
            refine seqRead 9 (v := _) rfl (by kernel_rfl) (by kernel_rfl) (by kernel_rfl) (fun _ _ _ h => h) rfl (fun w hSw => execRow rfl bl 0 rfl (ecl x.1) _ (rngA hSw) Try.underlying26 rfl infoE) hS ?_
            try simp only [Act.put, List.setIfInBounds_toArray, List.set_cons_zero, List.set_cons_succ]
            refine seqCall 10 rfl (by kernel_rfl) rfl (fun K hK => ?_)
            refine putWp _ _ _ rfl bm (pairsL (L.take r)) x.1 x.2 rfl rfl rfl HT0.out.m (fun V1 hmV1 hgV1 => ?_)
            refine hK.out _ _ (hS.mapped HT0.out.m hgV1) (fun hS => ?_)
            clear hK K
            have HT1 := Lib.hid (HT0.out.put hmV1 hgV1)
            clear hmV1 hgV1
            try simp only [Act.put]
            refine seqCall 11 rfl (by kernel_rfl) rfl (fun K hK => ?_)
            refine putWp _ _ _ rfl bm _ x.2 x.1 rfl rfl rfl HT1.out.m (fun V2 hmV2 hgV2 => ?_)
            refine hK.out _ _ (hS.mapped HT1.out.m hgV2) (fun hS => ?_)
            clear hK K
            have HT2 := Lib.hid (HT1.out.put hmV2 hgV2)
            clear hmV2 hgV2
            try simp only [Act.put]
            refine seqDone (by kernel_rfl) ?_
            clear hS
            have HQ := Lib.hid (HT2.out.m)
            have HX2 := Lib.hid (show endsL (L.take (r + 1)) = endsL (L.take r) ++ [x.1, x.2] from endsL_take HX.out)
            by_cases hn : (endsL (L.take (r + 1))).Nodup
            · have hD : putD (putD (pairsL (L.take r)) x.1 x.2) x.2 x.1 = pairsL (L.take (r + 1)) := by
                rw [pairsL_take HX.out]
                exact put_new (by rw [pairsL_keys, ← HX2.out]; exact hn)
              rw [hD] at HT2 HQ
              have hle : (pairsL (L.take (r + 1))).length = 2 * (r + 1) := by
                have h1 := congrArg List.length (pairsL_keys (L.take (r + 1)))
                rw [endsL_len, List.length_map, List.length_take] at h1
                have := HN.out
                omega
              have hcI : ¬ (((pairsL (L.take (r + 1))).length : Nat) : Int) < 2 * ((r : Int) + 1) := by omega
              have HNN := Lib.hid hn
              have HPP := Lib.hid (show ∀ e ∈ endsL (L.take (r + 1)), portB U P e = true from fun e he => by
                rw [HX2.out] at he
                rcases List.mem_append.1 he with he | he
                · exact HP.out e he
                · simp only [List.mem_cons, List.not_mem_nil, or_false] at he
                  rcases he with rfl | rfl
                  · exact HA.out
                  · exact HBt.out)
              obtain ⟨z, hz⟩ : ∃ z, z = (pairsL (L.take (r + 1))).length := ⟨_, rfl⟩
              rw [← hz] at hcI
              have HZ := Lib.hid hz
              clear hn hD hle hz HD HP
              have hr9 : r < 1000000 := by omega
              go_wp2_with (refine wpLenM rfl _ rfl bm (pairsL (L.take (r + 1))) rfl HQ.out ?_; rw [← HZ.out])
              go_roundg (n - (r + 1))
              case measure => omega
              case rel => exact ⟨r + 1, by omega, by go_num, HPP.out, HNN.out, HT2.out⟩
            · have HF := Lib.hid (fault_dup HR.out (dup_take HX.out (by rw [← HX2.out]; exact hn)))
              have hle : (putD (putD (pairsL (L.take r)) x.1 x.2) x.2 x.1).length < 2 * (r + 1) := by
                have h1 := put_old (D := pairsL (L.take r)) (a := x.1) (b := x.2) (by rw [pairsL_keys]; exact HD.out) (by rw [pairsL_keys, ← HX2.out]; exact hn)
                have h2 := congrArg List.length (pairsL_keys (L.take r))
                rw [endsL_len, List.length_map, List.length_take] at h2
                have := HN.out
                omega
              obtain ⟨z, hz⟩ : ∃ z, z = (putD (putD (pairsL (L.take r)) x.1 x.2) x.2 x.1).length := ⟨_, rfl⟩
              have hcI : (z : Int) < 2 * ((r : Int) + 1) := by omega
              have HZ := Lib.hid hz
              have HB5 := Lib.hid HT2.out.kept
              clear hn hle hz
              have hr9 : r < 1000000 := by omega
              go_wp2_with (refine wpLenM rfl _ rfl bm (putD (putD (pairsL (L.take r)) x.1 x.2) x.2 x.1) rfl HQ.out ?_; rw [← HZ.out])
              go_ret2
              exact ⟨.map none, by rw [HF.out]; rfl, oth_map (by rw [HF.out]; decide) rfl, HB5.out⟩
      · have hltI : ¬ (r : Int) < (n : Int) := by omega
        have hr0 : L.take r = L := List.take_of_length_le (by have := HN.out; omega)
        rw [hr0] at HS HP HD
        have HF := Lib.hid (fault_ok HR.out HP.out HD.out)
        clear hr0
        go_wp2_with fail
        go_ret2
        exact ⟨.map (some bm), by rw [HF.out]; rfl, .inr ⟨bm, rfl, by unfold mapL; rw [if_pos HF.out]; exact HS.out.m⟩, HS.out.kept⟩
end Go.Proofs.Ytgmfmmabegcocaa
