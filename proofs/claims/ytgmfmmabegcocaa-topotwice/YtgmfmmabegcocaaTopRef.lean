/-
  The reference's Setup.
-/
import Derived.Test.YtgmfmmabegcocaaTopEdg
namespace Go.Proofs.Ytgmfmmabegcocaa
set_option maxRecDepth 20000
open Go.RowKit

theorem lnA {W : World} {b o : Nat} {x : Ln} (h : W.rangeAt b o (lcl x)) : W.rangeAt b o (ecl x.1) := fun j u hu => by
  have hj : j < 2 := (List.getElem?_eq_some_iff.1 hu).1
  refine h j u ?_
  match j, hj with
  | 0, _ => exact hu
  | 1, _ => exact hu
theorem lnB {W : World} {b o : Nat} {x : Ln} (h : W.rangeAt b o (lcl x)) : W.rangeAt b (o + 2) (ecl x.2) := fun j u hu => by
  have hj : j < 2 := (List.getElem?_eq_some_iff.1 hu).1
  rw [show o + 2 + j = o + (2 + j) by omega]
  refine h (2 + j) u ?_
  match j, hj with
  | 0, _ => exact hu
  | 1, _ => exact hu
theorem fillE2 (x y : En) : Instr.fill (fun i' => some (i' * 2, 2)) ((Array.range (2 * 2)).map ((#[Value.int .i64 0, .int .i64 0] : Array Value)[· % (#[Value.int .i64 0, .int .i64 0] : Array Value).size]!)) [(0, .agg (ecl x).toArray), (1, .agg (ecl y).toArray)] = some #[.int .i64 x.1, .int .i64 x.2, .int .i64 y.1, .int .i64 y.2] := by kernel_rfl
theorem ebuildTwoWp {o : Oper} {a : Act} {w : World} {Kt : Act → World → Prop} {Q : Exit → Act → World → Prop} (s t : Operand) (ho : o.op = .buildSlice KE.S 2 #[(0, s), (1, t)]) (x y : En) (hx : a.eval s = .agg (ecl x).toArray) (hy : a.eval t = .agg (ecl y).toArray)
    (h : Kt (a.put o.dst (.slice (some ⟨w.heap.size, 0, none⟩) 2 2)) (w.alloc (.cells #[.int .i64 x.1, .int .i64 x.2, .int .i64 y.1, .int .i64 y.2] KE.T))) : o.wp Try.prog a w Kt Q :=
  kbuildVWp KE okE #[.int .i64 0, .int .i64 0] zeroKE 2 _ ho [(0, .agg (ecl x).toArray), (1, .agg (ecl y).toArray)] (by simp [hx, hy]) #[.int .i64 x.1, .int .i64 x.2, .int .i64 y.1, .int .i64 y.2] (by decide) (by decide) (fillE2 x y) h
theorem twoE (x y : En) (W : World) : KLies KE (.slice (some ⟨W.heap.size, 0, none⟩) 2 2) [x, y] (W.alloc (.cells #[.int .i64 x.1, .int .i64 x.2, .int .i64 y.1, .int .i64 y.2] 26)) := Blk.klies (K := KE) (l := [x, y]) (Blk.new W _ KE.T) okE rfl
set_option maxHeartbeats 1000000 in
theorem rsetup_out (U P R : Int) (q : Option Addr) (n c : Nat) (L : List Ln) (w : World) (hr : rangeB U P R = false) :
    Calls Try.prog 10 #[.agg (sca U P R q n c)] w fun e w' => e = .returned (.int .i64 (fault U P R L)) ∧ Below w.heap.size w w' := by
  have HB := Lib.hid (below1 w (.cells (sca U P R q n c) 24))
  rw [fault_range hr]
  by_cases h1 : 1 ≤ U
  · have g1 : ¬ U < 1 := by omega
    by_cases h2 : U ≤ 8
    · have g2 : ¬ 8 < U := by omega
      by_cases h3 : 1 ≤ P
      · have g3 : ¬ P < 1 := by omega
        by_cases h4 : P ≤ 16
        · have g4 : ¬ 16 < P := by omega
          by_cases h5 : 0 ≤ R
          · have g5 : ¬ R < 0 := by omega
            by_cases h6 : R ≤ 32
            · simp [rangeB, h1, h2, h3, h4, h5, h6] at hr
            · have g6 : 32 < R := by omega
              clear hr
              go_enter Try.func10, Try.ntmps10
              go_wp2_with fail
              go_ret
              exact ⟨rfl, HB.out⟩
          · have g5 : R < 0 := by omega
            clear hr
            go_enter Try.func10, Try.ntmps10
            go_wp2_with fail
            go_ret
            exact ⟨rfl, HB.out⟩
        · have g4 : 16 < P := by omega
          clear hr
          go_enter Try.func10, Try.ntmps10
          go_wp2_with fail
          go_ret
          exact ⟨rfl, HB.out⟩
      · have g3 : P < 1 := by omega
        clear hr
        go_enter Try.func10, Try.ntmps10
        go_wp2_with fail
        go_ret
        exact ⟨rfl, HB.out⟩
    · have g2 : 8 < U := by omega
      clear hr
      go_enter Try.func10, Try.ntmps10
      go_wp2_with fail
      go_ret
      exact ⟨rfl, HB.out⟩
  · have g1 : U < 1 := by omega
    clear hr
    go_enter Try.func10, Try.ntmps10
    go_wp2_with fail
    go_ret
    exact ⟨rfl, HB.out⟩
/-- what its loops hold -/
structure RsS (w0 : World) (sc : Array Value) (v : Value) (l : List En) (W : World) : Prop where
  s : Blk w0.heap.size sc 24 W
  o : KOwns KE (w0.heap.size + 1) v l W
  kept : Below w0.heap.size w0 W
section
variable {w0 W W' : World} {sc : Array Value} {v v' : Value} {l l' : List En}
theorem RsS.below (h : RsS w0 sc v l W) (hb : Below W.heap.size W W') : RsS w0 sc v l W' := ⟨h.s.below hb, h.o.below hb, h.kept.trans (hb.mono h.kept.size)⟩
theorem RsS.app (h : RsS w0 sc v l W) (ho : KOwns KE (w0.heap.size + 1) v' l' W') (hg : W.grownBy W' v.ownBlock) : RsS w0 sc v' l' W' :=
  ⟨h.s.grown h.o (Nat.lt_succ_self _) hg, ho, h.kept.grown hg h.kept.size (fun k e => by have := h.o.ge k e; omega)⟩
theorem RsS.new (h : RsS w0 sc v l W) : w0.heap.size + 1 ≤ W.heap.size := h.s.lt
end
theorem ends_at {L : List En} {i : Nat} {x : En} (h : L[i]? = some x) {f : En → Bool} (hp : ∀ e ∈ L.take i, f e = true) (hx : f x = true) : ∀ e ∈ L.take (i + 1), f e = true := fun e he => by
  rw [take_some h] at he
  rcases List.mem_append.1 he with he | he
  · exact hp e he
  · simp only [List.mem_cons, List.not_mem_nil, or_false] at he
    rw [he]; exact hx
theorem nodup_at {L : List En} {i : Nat} {x : En} (h : L[i]? = some x) (hn : (L.take i).Nodup) (hx : ∀ k y, k < i → L[k]? = some y → y ≠ x) : (L.take (i + 1)).Nodup := by
  rw [take_some h]
  refine List.nodup_append.2 ⟨hn, by simp, fun a ha b hb => ?_⟩
  simp only [List.mem_cons, List.not_mem_nil, or_false] at hb
  subst hb
  obtain ⟨k, hk⟩ := List.getElem?_of_mem ha
  rw [List.getElem?_take] at hk
  split at hk
  · rename_i hki
    exact hx k a hki hk
  · cases hk
theorem dup_at {L : List En} {i k : Nat} {x : En} (h : L[i]? = some x) (hk : L[k]? = some x) (hki : k < i) : ¬ L.Nodup := fun hn => by
  obtain ⟨hi, e1⟩ := List.getElem?_eq_some_iff.1 h
  obtain ⟨hj, e2⟩ := List.getElem?_eq_some_iff.1 hk
  have := (List.nodup_iff_pairwise_ne.1 hn)
  exact (List.pairwise_iff_getElem.1 this k i hj hi hki) (e2.trans e1.symm)
set_option maxRecDepth 100000 in
set_option maxHeartbeats 8000000 in
theorem rsetup_in (U P R : Int) (q : Option Addr) (n c : Nat) (L : List Ln) (hlen : L.length * 32 ≤ 140737488355328) (w : World) (hl : KLies KN (.slice q n c) L w) (hr : rangeB U P R = true) :
    Calls Try.prog 10 #[.agg (sca U P R q n c)] w fun e w' => e = .returned (.int .i64 (fault U P R L)) ∧ Below w.heap.size w w' := by
  obtain ⟨q', c', e'⟩ := hl.form
  injection e' with e1 e2 e3
  subst e2
  clear e1 e3
  obtain ⟨n, hn⟩ : ∃ n, n = L.length := ⟨_, rfl⟩
  rw [← hn] at hl hlen ⊢
  have HN := Lib.hid hn
  have HLE := Lib.hid hlen
  clear hn hlen
  have HL := Lib.hid hl
  have HS := Lib.hid (show RsS w (sca U P R q n c) (.slice none 0 0) [] (w.alloc (.cells (sca U P R q n c) 24)) from ⟨Blk.new _ _ _, KOwns.nil _ _, below1 _ _⟩)
  have HR := Lib.hid hr
  simp only [rangeB, Bool.and_eq_true, decide_eq_true_eq] at hr
  obtain ⟨⟨⟨⟨⟨h1, h2⟩, h3⟩, h4⟩, h5⟩, h6⟩ := hr
  have g1 : ¬ U < 1 := by omega
  have g2 : ¬ 8 < U := by omega
  have g3 : ¬ P < 1 := by omega
  have g4 : ¬ 16 < P := by omega
  have g5 : ¬ R < 0 := by omega
  have g6 : ¬ 32 < R := by omega
  clear hl h1 h2 h3 h4 h5 h6
  go_enter Try.func10, Try.ntmps10
  go_upto_region 3 with fail
  clear g1 g2 g3 g4 g5 g6
  generalize w.alloc (.cells (sca U P R q n c) 24) = W0 at *
  go_wp2_with fail
  go_loopg [4, 3] n (fun k s4 s3 wr => ∃ r : Nat, r + k = n ∧ s4 = .int .i64 r ∧ RsS w (sca U P R q n c) s3 (endsL (L.take r)) wr)
  case atStart => exact ⟨0, by omega, rfl, HS.out⟩
  case round =>
    clear HS
    obtain ⟨r, hr, rfl, hs⟩ := hrel
    have HS := Lib.hid hs
    clear hs
    have k3 : wr.cell? ⟨w.heap.size, 3, none⟩ = some (.slice q n c) := (cell_of_row _ w.heap.size 3 _ _ _ HS.out.s).trans rfl
    by_cases hlt : r < n
    · have hltI : (r : Int) < (n : Int) := by omega
      have hdI : decide ((r : Int) < (n : Int)) = true := decide_eq_true hltI
      obtain ⟨x, hx⟩ := lt_some (l := L) (i := r) (by have := HN.out; omega)
      have HX := Lib.hid hx
      obtain ⟨bb, o, rfl, _⟩ := HL.out.at hx
      obtain ⟨p3, c3, e3⟩ := HS.out.o.form
      subst e3
      obtain ⟨z, hz⟩ : ∃ z, z = (endsL (L.take r)).length := ⟨_, rfl⟩
      have HZ := Lib.hid hz
      have HLN := Lib.hid (show ((endsL (L.take r)).length + [x.1, x.2].length) * KE.room ≤ 140737488355328 by
        rw [endsL_len, List.length_take]
        show (2 * min r L.length + 2) * 16 ≤ _
        have := HLE.out
        have := HN.out
        omega)
      rw [← hz] at HS ⊢
      clear hx hz
      go_upto_region 7 with fail
      have HS0 := Lib.hid (HS.out.below (Below.refl _ _).drew)
      refine wp_region_held_drew (S := (fun W => Blk w.heap.size (sca U P R (some ⟨bb, o, none⟩) n c) 24 W ∧ Below w.heap.size w W)) (by kernel_rfl) ⟨HS0.out.s, HS0.out.kept⟩ (fun hS => ?_)
      clear HS k3
      generalize wr.drew = V0 at *
      refine seqRead 0 (v := _) rfl (by kernel_rfl) (by kernel_rfl) (by kernel_rfl) (fun _ _ _ h => h) rfl (fun w hSw => by go_simp <;> with_reducible rfl) hS ?_
      try simp only [Act.put, List.setIfInBounds_toArray, List.set_cons_zero, List.set_cons_succ]
      refine seqRead 1 (v := _) rfl (by kernel_rfl) (by kernel_rfl) (by kernel_rfl) (fun _ _ _ h => h) rfl (fun w hSw => by go_simp <;> with_reducible rfl) hS ?_
      try simp only [Act.put, List.setIfInBounds_toArray, List.set_cons_zero, List.set_cons_succ]
      refine seqRead 2 (v := _) rfl (by kernel_rfl) (by kernel_rfl) (by kernel_rfl) (fun _ _ _ h => h) rfl (fun w hSw => by have k3 := (cell_of_row w _ 3 _ _ _ hSw.1).trans rfl; go_simp <;> with_reducible rfl) hS ?_
      try simp only [Act.put, List.setIfInBounds_toArray, List.set_cons_zero, List.set_cons_succ]
      refine seqRead 3 (v := _) rfl (by kernel_rfl) (by kernel_rfl) (by kernel_rfl) (fun _ _ _ h => h) rfl (fun w hSw => by go_simp <;> with_reducible rfl) hS ?_
      try simp only [Act.put, List.setIfInBounds_toArray, List.set_cons_zero, List.set_cons_succ]
      refine seqRead 4 (v := _) rfl (by kernel_rfl) (by kernel_rfl) (by kernel_rfl) (fun _ _ _ h => h) rfl (fun w hSw => by go_simp <;> with_reducible rfl) hS ?_
      try simp only [Act.put, List.setIfInBounds_toArray, List.set_cons_zero, List.set_cons_succ]
      refine seqRead 5 (v := _) rfl (by kernel_rfl) (by kernel_rfl) (by kernel_rfl) (fun _ _ _ h => h) rfl (fun w hSw => by go_simp <;> with_reducible rfl) hS ?_
      try simp only [Act.put, List.setIfInBounds_toArray, List.set_cons_zero, List.set_cons_succ]
      refine seqRead 6 (v := _) rfl (by kernel_rfl) (by kernel_rfl) (by kernel_rfl) (fun _ _ _ h => h) rfl (fun w hSw => execRow rfl bb (o + r * 4) rfl (ecl x.1) _ (lnA ((HL.out.below okN hSw.2).at' HX.out)) Try.underlying26 rfl infoE) hS ?_
      try simp only [Act.put, List.setIfInBounds_toArray, List.set_cons_zero, List.set_cons_succ]
      refine seqRead 7 (v := _) rfl (by kernel_rfl) (by kernel_rfl) (by kernel_rfl) (fun _ _ _ h => h) rfl (fun w hSw => by go_simp <;> with_reducible rfl) hS ?_
      try simp only [Act.put, List.setIfInBounds_toArray, List.set_cons_zero, List.set_cons_succ]
      refine seqRead 8 (v := _) rfl (by kernel_rfl) (by kernel_rfl) (by kernel_rfl) (fun _ _ _ h => h) rfl (fun w hSw => by have k3 := (cell_of_row w _ 3 _ _ _ hSw.1).trans rfl; go_simp <;> with_reducible rfl) hS ?_
      try simp only [Act.put, List.setIfInBounds_toArray, List.set_cons_zero, List.set_cons_succ]
      refine seqRead 9 (v := _) rfl (by kernel_rfl) (by kernel_rfl) (by kernel_rfl) (fun _ _ _ h => h) rfl (fun w hSw => by go_simp <;> with_reducible rfl) hS ?_
      try simp only [Act.put, List.setIfInBounds_toArray, List.set_cons_zero, List.set_cons_succ]
      refine seqRead 10 (v := _) rfl (by kernel_rfl) (by kernel_rfl) (by kernel_rfl) (fun _ _ _ h => h) rfl (fun w hSw => by go_simp <;> with_reducible rfl) hS ?_
      try simp only [Act.put, List.setIfInBounds_toArray, List.set_cons_zero, List.set_cons_succ]
      refine seqRead 11 (v := _) rfl (by kernel_rfl) (by kernel_rfl) (by kernel_rfl) (fun _ _ _ h => h) rfl (fun w hSw => by go_simp <;> with_reducible rfl) hS ?_
      try simp only [Act.put, List.setIfInBounds_toArray, List.set_cons_zero, List.set_cons_succ]
      refine seqRead 12 (v := _) rfl (by kernel_rfl) (by kernel_rfl) (by kernel_rfl) (fun _ _ _ h => h) rfl (fun w hSw => execRow rfl bb (o + r * 4 + 2) rfl (ecl x.2) _ (lnB ((HL.out.below okN hSw.2).at' HX.out)) Try.underlying26 rfl infoE) hS ?_
      try simp only [Act.put, List.setIfInBounds_toArray, List.set_cons_zero, List.set_cons_succ]
      refine seqCall 13 rfl (by kernel_rfl) rfl (fun K hK => ?_)
      refine ebuildTwoWp _ _ rfl x.1 x.2 rfl rfl ?_
      refine hK.out _ _ ⟨hS.1.below (below1 _ _), hS.2.trans ((below1 _ _).mono hS.2.size)⟩ (fun hS => ?_)
      clear hK K
      have HS1 := Lib.hid (HS0.out.below (below1 V0 (.cells #[.int .i64 x.1.1, .int .i64 x.1.2, .int .i64 x.2.1, .int .i64 x.2.2] 26)))
      have HT1 := Lib.hid (twoE x.1 x.2 V0)
      try simp only [Act.put, List.setIfInBounds_toArray, List.set_cons_zero, List.set_cons_succ]
      refine seqCall 14 rfl (by kernel_rfl) rfl (fun K hK => ?_)
      refine kappendWpB KE okE _ _ rfl (w.heap.size + 1) (.slice p3 z c3) (endsL (L.take r)) [x.1, x.2] rfl HS1.out.o _ rfl HT1.out HS1.out.new HLN.out (fun v2 V2 ho hg => ?_)
      have HS2 := Lib.hid (HS1.out.app ho hg)
      refine hK.out _ _ ⟨HS2.out.s, HS2.out.kept⟩ (fun hS => ?_)
      clear hK K ho hg HS1 HT1
      try simp only [Act.put, List.setIfInBounds_toArray, List.set_cons_zero, List.set_cons_succ]
      refine seqRead 15 (v := _) rfl (by kernel_rfl) (by kernel_rfl) (by kernel_rfl) (fun _ _ _ h => h) rfl (fun w hSw => by go_simp <;> with_reducible rfl) hS ?_
      try simp only [Act.put, List.setIfInBounds_toArray, List.set_cons_zero, List.set_cons_succ]
      refine seqDone (by kernel_rfl) ?_
      clear hS
      rw [← endsL_take HX.out] at HS2
      clear HS0 HLN hdI
      have hr9 : r < 4398046511105 := by have := HLE.out; omega
      go_wp2_with fail
      go_roundg (n - (r + 1))
      case measure => omega
      case rel => exact ⟨r + 1, by omega, by go_num, HS2.out⟩
    · have hltI : ¬ (r : Int) < (n : Int) := by omega
      have hr0 : L.take r = L := List.take_of_length_le (by have := HN.out; omega)
      rw [hr0] at HS
      obtain ⟨p3, c3, e3⟩ := HS.out.o.form
      subst e3
      obtain ⟨M, hM⟩ : ∃ M, M = (endsL L).length := ⟨_, rfl⟩
      have HM := Lib.hid hM
      rw [← hM] at HS ⊢
      have HM9 := Lib.hid (show M < 8796093022209 by rw [hM, endsL_len]; have := HLE.out; have := HN.out; omega)
      clear hM hr0
      go_wp2_with fail
      clear k3
      go_loopg [5] M (fun k s5 wr => ∃ i : Nat, i + k = M ∧ s5 = .int .i64 i ∧ (∀ e ∈ (endsL L).take i, portB U P e = true) ∧ ((endsL L).take i).Nodup ∧ RsS w (sca U P R q n c) (.slice p3 M c3) (endsL L) wr)
      case atStart => exact ⟨0, by omega, rfl, fun e he => (by cases he), List.nodup_nil, HS.out⟩
      case round =>
        clear HS
        obtain ⟨i, hi, rfl, hp, hd, hs⟩ := hrel
        have HS := Lib.hid hs
        have HP := Lib.hid hp
        have HD := Lib.hid hd
        have HI := Lib.hid hi
        clear hs hp hd
        by_cases hil : i < M
        · have hilI : (i : Int) < (M : Int) := by omega
          obtain ⟨x, hx⟩ := lt_some (l := endsL L) (i := i) (by have := HM.out; omega)
          have HX := Lib.hid hx
          obtain ⟨bb, o, rfl, hrg⟩ := (HS.out.o.lies okE).at hx
          have HRG := Lib.hid hrg
          obtain ⟨b6, hb6⟩ : ∃ b6, b6 = wr.heap.size := ⟨_, rfl⟩
          clear hx hrg
          go_upto_region 12 with (first
            | (refine wpList_load_mid rfl 26 _ rfl bb (o + i * 2) rfl (ecl x) _ HRG.out Try.underlying26 rfl infoE ?_)
            | (refine wpList_store_row rfl 26 _ _ rfl wr.heap.size (eca x) rfl rfl 26 _ (heap_alloc_new _ _) infoE rfl (eca_one x) ?_; rw [World.setRow_alloc_new]))
          have HS1 := Lib.hid (HS.out.below (below1 wr (.cells (eca x) 26)))
          have RX := Lib.hid (Blk.new wr (eca x) 26)
          rw [← hb6] at RX ⊢
          clear HRG HS hb6
          generalize wr.alloc (.cells (eca x) 26) = W1 at *
          obtain ⟨xu, xp⟩ := x
          have k60 : W1.cell? ⟨b6, 0, none⟩ = some (.int .i64 xu) := (cell_of_row _ b6 0 _ _ _ RX.out).trans rfl
          have k61 : W1.cell? ⟨b6, 1, none⟩ = some (.int .i64 xp) := (cell_of_row _ b6 1 _ _ _ RX.out).trans rfl
          have k0 : W1.cell? ⟨w.heap.size, 0, none⟩ = some (.int .i64 U) := (cell_of_row _ w.heap.size 0 _ _ _ HS1.out.s).trans rfl
          have k1 : W1.cell? ⟨w.heap.size, 1, none⟩ = some (.int .i64 P) := (cell_of_row _ w.heap.size 1 _ _ _ HS1.out.s).trans rfl
          by_cases h1 : xu < 0
          · have HF := Lib.hid (fault_port HR.out (List.mem_of_getElem? HX.out) (by simp [portB]; omega))
            go_wp2_with fail
            go_ret
            exact ⟨by rw [HF.out]; rfl, HS1.out.kept⟩
          by_cases h2 : U ≤ xu
          · have HF := Lib.hid (fault_port HR.out (List.mem_of_getElem? HX.out) (by simp [portB]; omega))
            go_wp2_with fail
            go_ret
            exact ⟨by rw [HF.out]; rfl, HS1.out.kept⟩
          by_cases h3 : xp < 1
          · have HF := Lib.hid (fault_port HR.out (List.mem_of_getElem? HX.out) (by simp [portB]; omega))
            go_wp2_with fail
            go_ret
            exact ⟨by rw [HF.out]; rfl, HS1.out.kept⟩
          by_cases h4 : P < xp
          · have HF := Lib.hid (fault_port HR.out (List.mem_of_getElem? HX.out) (by simp [portB]; omega))
            go_wp2_with fail
            go_ret
            exact ⟨by rw [HF.out]; rfl, HS1.out.kept⟩
          have HPX := Lib.hid (show portB U P (xu, xp) = true by simp [portB]; omega)
          go_wp2_with fail
          clear k60 k61 k0 k1 h1 h2 h3 h4
          go_loopg [7] i (fun k s7 W => ∃ j : Nat, j + k = i ∧ s7 = .int .i64 j ∧ (∀ k' y, k' < j → (endsL L)[k']? = some y → y ≠ (xu, xp)) ∧ RsS w (sca U P R q n c) (.slice (some ⟨bb, o, none⟩) M c3) (endsL L) W ∧ Blk b6 (eca (xu, xp)) 26 W)
          case atStart => exact ⟨0, by omega, rfl, fun k' y h => absurd h (by omega), HS1.out, RX.out⟩
          case round =>
            clear HS1 RX
            obtain ⟨j, hj, rfl, hne, hs, hb6⟩ := hrel
            have HS := Lib.hid (And.intro hs hb6)
            have HNE := Lib.hid hne
            clear hs hb6 hne
            by_cases hjl : j < i
            · have hjI : (j : Int) < (i : Int) := by omega
              have hjMn : j < M := by omega
              have hjM : decide ((j : Int) < (M : Int)) = true := decide_eq_true (by omega)
              obtain ⟨y, hy⟩ := lt_some (l := endsL L) (i := j) (by have := HM.out; omega)
              have HY := Lib.hid hy
              clear hy
              have heq : ∀ w, (Op.equalIn 10000 26 (.agg (ecl y).toArray) (.agg (eca (xu, xp)))).run Try.prog w = .ok (decide (y = (xu, xp))) w := fun w => eql_end y (xu, xp) w
              have hgd := guardEnd
              go_upto_region 17 with fail
              refine wp_region_held_drew (S := (fun W => RsS w (sca U P R q n c) (.slice (some ⟨bb, o, none⟩) M c3) (endsL L) W ∧ Blk b6 (eca (xu, xp)) 26 W)) (by kernel_rfl) ⟨HS.out.1.below (Below.refl _ _).drew, HS.out.2.drew⟩ (fun hS => ?_)
              clear HS
              generalize wr.drew = V0 at *
              generalize hyb : decide (y = (xu, xp)) = yb at *
              refine seqRead 0 (v := _) rfl (by kernel_rfl) (by kernel_rfl) (by kernel_rfl) (fun _ _ _ h => h) rfl (fun w hSw => by go_simp <;> with_reducible rfl) hS ?_
              try simp only [Act.put, List.setIfInBounds_toArray, List.set_cons_zero, List.set_cons_succ]
              refine seqRead 1 (v := _) rfl (by kernel_rfl) (by kernel_rfl) (by kernel_rfl) (fun _ _ _ h => h) rfl (fun w hSw => by go_simp <;> with_reducible rfl) hS ?_
              try simp only [Act.put, List.setIfInBounds_toArray, List.set_cons_zero, List.set_cons_succ]
              refine seqRead 2 (v := _) rfl (by kernel_rfl) (by kernel_rfl) (by kernel_rfl) (fun _ _ _ h => h) rfl (fun w hSw => by go_simp <;> with_reducible rfl) hS ?_
              try simp only [Act.put, List.setIfInBounds_toArray, List.set_cons_zero, List.set_cons_succ]
              refine seqRead 3 (v := _) rfl (by kernel_rfl) (by kernel_rfl) (by kernel_rfl) (fun _ _ _ h => h) rfl (fun w hSw => execRow rfl bb (o + j * 2) rfl (ecl y) _ ((hSw.1.o.lies okE).at' HY.out) Try.underlying26 rfl infoE) hS ?_
              try simp only [Act.put, List.setIfInBounds_toArray, List.set_cons_zero, List.set_cons_succ]
              refine seqRead 4 (v := _) rfl (by kernel_rfl) (by kernel_rfl) (by kernel_rfl) (fun _ _ _ h => h) rfl (fun w hSw => execRow0 rfl b6 rfl hSw.2 Try.underlying26 rfl infoE) hS ?_
              try simp only [Act.put, List.setIfInBounds_toArray, List.set_cons_zero, List.set_cons_succ]
              refine seqRead 5 (v := _) rfl (by kernel_rfl) (by kernel_rfl) (by kernel_rfl) (fun _ _ _ h => h) rfl (fun w hSw => by go_simp <;> with_reducible rfl) hS ?_
              try simp only [Act.put, List.setIfInBounds_toArray, List.set_cons_zero, List.set_cons_succ]
              refine seqDone (by kernel_rfl) ?_
              have HS1 := Lib.hid hS
              clear hS heq hgd hjM hjMn
              cases yb with
              | true =>
                have HF := Lib.hid (fault_dup HR.out (dup_at HX.out (by rw [HY.out, of_decide_eq_true hyb]) hjl))
                clear hyb
                go_wp2_with fail
                go_ret
                exact ⟨by rw [HF.out]; rfl, HS1.out.1.kept⟩
              | false =>
                have HNY := Lib.hid (of_decide_eq_false hyb)
                clear hyb
                have hj9 : j < 8796093022209 := by have := HM9.out; omega
                go_wp2_with fail
                go_roundg (i - (j + 1))
                case measure => omega
                case rel =>
                  refine ⟨j + 1, by omega, by go_num, fun k' y' hk hy' => ?_, HS1.out⟩
                  by_cases e : k' = j
                  · subst e
                    rw [HY.out] at hy'
                    rw [← Option.some.inj hy']
                    exact HNY.out
                  · exact HNE.out k' y' (by omega) hy'
            · have hjI : ¬ (j : Int) < (i : Int) := by omega
              have hij : j = i := by omega
              rw [hij] at HNE
              have hi9 : i < 8796093022209 := by have := HM9.out; omega
              go_wp2_with fail
              go_roundg (M - (i + 1))
              case measure => omega
              case rel => exact ⟨i + 1, by omega, by go_num, ends_at HX.out HP.out HPX.out, nodup_at HX.out HD.out HNE.out, HS.out.1⟩
        · have hilI : ¬ (i : Int) < (M : Int) := by omega
          have hi0 : (endsL L).take i = endsL L := List.take_of_length_le (by have := HM.out; omega)
          rw [hi0] at HP HD
          have HF := Lib.hid (fault_ok HR.out HP.out HD.out)
          clear hi0
          go_wp2_with fail
          go_ret
          exact ⟨by rw [HF.out]; rfl, HS.out.kept⟩
theorem rsetup_any (U P R : Int) (q : Option Addr) (n c : Nat) (L : List Ln) (hlen : L.length * 32 ≤ 140737488355328) (w : World) (hl : KLies KN (.slice q n c) L w) :
    Calls Try.prog 10 #[.agg (sca U P R q n c)] w fun e w' => e = .returned (.int .i64 (fault U P R L)) ∧ Below w.heap.size w w' := by
  cases hr : rangeB U P R with
  | false => exact rsetup_out U P R q n c L w hr
  | true => exact rsetup_in U P R q n c L hlen w hl hr
end Go.Proofs.Ytgmfmmabegcocaa
