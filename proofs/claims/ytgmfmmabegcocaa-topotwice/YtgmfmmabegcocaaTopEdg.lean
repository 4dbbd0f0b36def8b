/-
  Edges.
-/
import Derived.Test.YtgmfmmabegcocaaTopSnd
namespace Go.Proofs.Ytgmfmmabegcocaa
set_option maxRecDepth 20000
open Go.RowKit

theorem buildAny (T : TypeId) {ops : Array Oper} {rest : List Oper} {o : Oper} {a : Act} {w : World} {Q : Exit → Act → World → Prop} (hg : o.guard = none) (parts : Array (Nat × Operand)) (ho : o.op = .build T parts) (vs : Array (Nat × Value)) (hv : (parts.map fun (p : Nat × Operand) => (p.1, a.eval p.2)) = vs)
    (cells : Array Value) (hb : Try.prog.built T vs.toList = some cells) (h : wpList Try.prog ops Q rest (a.put o.dst (.agg cells)) w) : wpList Try.prog ops Q (o :: rest) a w := by
  refine wpList_plain hg fun Kt hK => ?_
  have e := run_build (P := Try.prog) w T vs cells hb
  unfold Oper.wp execOp
  simp only [ho, Sem.run_bind]
  rw [hv, e]
  exact hK _ _ h
theorem builtE (x y : Int) : Try.prog.built 26 [(0, .int .i64 x), (1, .int .i64 y)] = some (eca (x, y)) := by kernel_rfl
theorem zeroKE : ((Try.prog.info? KE.T).bind (·.zero)).map (·.cells) = some #[Value.int .i64 0, .int .i64 0] := by kernel_rfl
theorem fillE (x : En) : Instr.fill (fun i' => some (i' * 2, 2)) ((Array.range (1 * 2)).map ((#[Value.int .i64 0, .int .i64 0] : Array Value)[· % (#[Value.int .i64 0, .int .i64 0] : Array Value).size]!)) [(0, .agg (eca x))] = some (eca x) := by kernel_rfl
/-- what Edges gives -/
def EdgRet (U P R : Int) (L : List Ln) (w : World) (e : Ending) (w' : World) : Prop := ∃ v, e = .returned v ∧ KOwns KE w.heap.size v (edgL U P R L) w' ∧ Below w.heap.size w w'
/-- what its loops hold -/
structure EdS (w0 : World) (B : Nat) (sc : Array Value) (m : Value) (D : List (En × En)) (v : Value) (l : List En) (W : World) : Prop where
  s : Blk w0.heap.size sc 24 W
  mp : MapAt m D W
  mb : ∀ b, m = .map (some b) → b < B
  o : KOwns KE B v l W
  kept : Below w0.heap.size w0 W
  old : w0.heap.size < B
  new : B ≤ W.heap.size
section
variable {w0 W W' : World} {sc : Array Value} {B : Nat} {v v' m : Value} {l l' : List En} {D : List (En × En)}
theorem EdS.below (h : EdS w0 B sc m D v l W) (hb : Below W.heap.size W W') : EdS w0 B sc m D v l W' :=
  ⟨h.s.below hb, h.mp.below hb, h.mb, h.o.below hb, h.kept.trans (hb.mono h.kept.size), h.old, Nat.le_trans h.new hb.size⟩
theorem EdS.to (h : EdS w0 B sc m D v l W) (e : l = l') : EdS w0 B sc m D v l' W := e ▸ h
theorem EdS.app (h : EdS w0 B sc m D v l W) (ho : KOwns KE B v' l' W') (hg : W.grownBy W' v.ownBlock) : EdS w0 B sc m D v' l' W' := by
  refine ⟨h.s.grown h.o h.old hg, ?_, h.mb, ho, h.kept.grown hg h.kept.size (fun k e => by have := h.o.ge k e; have := h.old; omega), h.old, Nat.le_trans h.new hg.size⟩
  rcases h.mp with hm | ⟨b, e, hm⟩
  · exact .inl hm
  · have hlt := hm.lt
    obtain ⟨es, clock, hb, r⟩ := hm
    exact .inr ⟨b, e, es, clock, (hg.block b hlt (fun x => by have := h.o.ge b x.symm; have := h.mb b e; omega)).trans hb, r⟩
end
theorem oneE (e : En) (W : World) : KLies KE (.slice (some ⟨W.heap.size, 0, none⟩) 1 1) [e] (W.alloc (.cells (eca e) 26)) := Blk.klies (K := KE) (l := [e]) (Blk.new W (eca e) KE.T) okE rfl
theorem row0 (D : List (En × En)) (k : Nat) : rowD D k 0 = [] := rfl
set_option maxRecDepth 100000 in
set_option maxHeartbeats 8000000 in
theorem tedges_any (U P R : Int) (q : Option Addr) (n c : Nat) (L : List Ln) (hlen : L.length ≤ 1000000) (w : World) (hl : KLies KN (.slice q n c) L w) :
    Calls Try.prog 11 #[.agg (sca U P R q n c)] w (EdgRet U P R L w) := by
  have HB0 := Lib.hid (below1 w (.cells (sca U P R q n c) 24))
  have RS0 := Lib.hid (Blk.new w (sca U P R q n c) 24)
  have HC := Lib.hid (others_any U P R q n c L hlen (w.alloc (.cells (sca U P R q n c) 24)) (hl.below okN HB0.out))
  clear hl
  obtain ⟨es, hes⟩ : ∃ es, es = fault U P R L := ⟨_, rfl⟩
  unfold OthRet at HC
  rw [← hes] at HC
  by_cases h0 : es = 0
  · subst h0
    obtain ⟨hr, _, _⟩ := fault_zero hes.symm
    simp only [rangeB, Bool.and_eq_true, decide_eq_true_eq] at hr
    obtain ⟨u, rfl⟩ : ∃ u : Nat, U = u := ⟨U.toNat, by omega⟩
    obtain ⟨p, rfl⟩ : ∃ p : Nat, P = p := ⟨P.toNat, by omega⟩
    have HE := Lib.hid (show edgL (u : Int) (p : Int) R L = gridD (pairsL L) p u by unfold edgL; rw [← hes, if_pos rfl]; rfl)
    have HMp := Lib.hid (show mapL (u : Int) (p : Int) R L = pairsL L by unfold mapL; rw [← hes, if_pos rfl])
    have HU := Lib.hid (show u ≤ 8 ∧ p ≤ 16 by omega)
    rw [HMp.out] at HC
    generalize pairsL L = D at *
    unfold EdgRet
    rw [HE.out]
    clear hes hr HE HMp
    go_enter Try.func11, Try.ntmps11
    go_wp2_with (first
      | (refine wpList_load_row rfl 24 _ rfl w.heap.size rfl 24 (sca u p R q n c) (0, 0) _ RS0.out Try.underlying24 rfl infoS4 ?_)
      | (go_at_call 12; refine HC.out.mono ?_; rintro e W1 ⟨m, rfl, hm, hb⟩; refine Hid.out ?_))
    have HS := Lib.hid (show EdS w W1.heap.size (sca u p R q n c) m D (.slice none 0 0) [] W1 from
      ⟨RS0.out.below hb, hm, fun b e => by
        rcases hm with ⟨e1, _⟩ | ⟨b', e1, hm⟩
        · rw [e1] at e; cases e
        · rw [e1] at e
          injection e with e
          injection e with e
          subst e
          exact hm.lt, KOwns.nil _ _, HB0.out.trans (hb.mono HB0.out.size), by have := RS0.out.lt; have := hb.size; omega, Nat.le_refl _⟩)
    obtain ⟨B, hB⟩ : ∃ B, B = W1.heap.size := ⟨_, rfl⟩
    rw [← hB] at HS
    clear hb hm HC RS0 HB0 hB
    have k0 : W1.cell? ⟨w.heap.size, 0, none⟩ = some (.int .i64 (u : Int)) := (cell_of_row _ w.heap.size 0 _ _ _ HS.out.s).trans rfl
    refine Lib.hid ?_
    go_wp2_with fail
    clear k0
    go_loopg [20, 5] u (fun q20 s20 s5 wr => ∃ k : Nat, k + q20 = u ∧ s20 = .int .i64 k ∧ EdS w B (sca u p R q n c) m D s5 (gridD D p k) wr)
    case atStart => exact ⟨0, by omega, rfl, HS.out⟩
    case round =>
      clear HS
      obtain ⟨k, hk, rfl, hs⟩ := hrel
      have HS := Lib.hid hs
      have HK := Lib.hid hk
      clear hs
      by_cases hlt : k < u
      · have hltI : (k : Int) < (u : Int) := by omega
        go_wp2_with fail
        go_loopg [7, 5] p (fun q7 s7 s5 W => ∃ j : Nat, j + q7 = p ∧ s7 = .int .i64 ((j : Int) + 1) ∧ EdS w B (sca u p R q n c) m D s5 (gridD D p k ++ rowD D k j) W)
        case atStart => exact ⟨0, by omega, rfl, by rw [row0, List.append_nil]; exact HS.out⟩
        case round =>
          clear HS
          obtain ⟨j, hj, rfl, hs⟩ := hrel
          have HS := Lib.hid hs
          have HJ := Lib.hid hj
          clear hs
          have k1 : wr.cell? ⟨w.heap.size, 1, none⟩ = some (.int .i64 (p : Int)) := (cell_of_row _ w.heap.size 1 _ _ _ HS.out.s).trans rfl
          by_cases hjl : j < p
          · have hjI : (j : Int) + 1 ≤ (p : Int) := by omega
            obtain ⟨b8, hb8⟩ : ∃ b8, b8 = wr.heap.size := ⟨_, rfl⟩
            obtain ⟨x, hx⟩ : ∃ x : En, x = ((k : Int), (j : Int) + 1) := ⟨_, rfl⟩
            have HXX := Lib.hid hx
            clear hx
            go_upto_region 12 with (refine wpList_store_row rfl 26 _ _ rfl wr.heap.size #[.int .i64 (k : Int), .int .i64 ((j : Int) + 1)] rfl rfl 26 _ (heap_alloc_new _ _) infoE rfl (eca_one ((k : Int), (j : Int) + 1)) ?_; rw [World.setRow_alloc_new])
            have HS1 := Lib.hid (HS.out.below (below1 wr (.cells #[.int .i64 (k : Int), .int .i64 ((j : Int) + 1)] 26)))
            have RX := Lib.hid (show Blk wr.heap.size (eca x) 26 (wr.alloc (.cells #[.int .i64 (k : Int), .int .i64 ((j : Int) + 1)] 26)) by rw [HXX.out]; exact Blk.new _ _ _)
            rw [← hb8] at RX ⊢
            clear HS k1 hb8
            generalize wr.alloc (.cells #[.int .i64 (k : Int), .int .i64 ((j : Int) + 1)] 26) = W2 at *
            obtain ⟨v, hv⟩ : ∃ v, v = leadV D x := ⟨_, rfl⟩
            obtain ⟨y, hy⟩ : ∃ y, y = leadB D x := ⟨_, rfl⟩
            have HV := Lib.hid (show (D.lookup x).getD (0, 0) = v ∧ (D.lookup x).isSome = y from ⟨hv.symm, hy.symm⟩)
            have hst := rowD_step D k j
            rw [← HXX.out, ← hy] at hst
            have HST := Lib.hid hst
            clear hst hy hv
            go_upto_region 13 with (first
              | (refine wpList_load_row rfl 26 _ rfl b8 rfl 26 (eca x) (0, 0) _ RX.out Try.underlying26 rfl infoE ?_)
              | (refine wpLook rfl _ _ rfl m D rfl HS1.out.mp x rfl ?_; rw [HV.out.1, HV.out.2])
              | (refine wpList_store_row rfl 26 _ _ rfl W2.heap.size (eca v) rfl rfl 26 _ (heap_alloc_new _ _) infoE rfl (eca_one v) ?_; rw [World.setRow_alloc_new]))
            have HS2 := Lib.hid (HS1.out.below (below1 W2 (.cells (eca v) 26)))
            have RX2 := Lib.hid (RX.out.below (below1 W2 (.cells (eca v) 26)))
            clear HS1 RX HV
            generalize W2.alloc (.cells (eca v) 26) = W3 at *
            have hj9 : j < 1000 := by have := HU.out; omega
            cases y with
            | true =>
              have HS3 := Lib.hid (HS2.out.to (show gridD D p k ++ rowD D k j = gridD D p k ++ rowD D k (j + 1) by rw [HST.out]; simp))
              clear HS2 RX2 HST
              go_wp2_with fail
              go_roundg (p - (j + 1))
              case measure => omega
              case rel => exact ⟨j + 1, by omega, by go_num, HS3.out⟩
            | false =>
              have HST2 := Lib.hid (show gridD D p k ++ rowD D k (j + 1) = (gridD D p k ++ rowD D k j) ++ [x] by rw [HST.out]; simp)
              have HLE := Lib.hid (show ((gridD D p k ++ rowD D k j).length + [x].length) * KE.room ≤ 140737488355328 by
                have h1 := grid_len_le D p k
                have h2 := row_len_le D k j
                have h3 : p * k ≤ 16 * 8 := Nat.mul_le_mul HU.out.2 (by have := HU.out.1; omega)
                rw [List.length_append]
                show (_ + _ + 1) * 16 ≤ _
                omega)
              obtain ⟨p5, c5, rfl⟩ := HS2.out.o.form
              generalize hG : gridD D p k ++ rowD D k j = G at *
              obtain ⟨g, hg⟩ : ∃ g, g = G.length := ⟨_, rfl⟩
              rw [← hg] at HS2 ⊢
              have HS3 := Lib.hid (HS2.out.below (below1 W3 (.cells (eca x) 26)))
              have HO := Lib.hid (oneE x W3)
              clear HST hG hg
              go_wp2_with (first
                | (refine wpList_load_row rfl 26 _ rfl b8 rfl 26 (eca x) (0, 0) _ RX2.out Try.underlying26 rfl infoE ?_)
                | (refine kbuildOne KE okE #[.int .i64 0, .int .i64 0] zeroKE rfl _ rfl (eca x) rfl (by decide) (fillE x) ?_)
                | (refine kappendB KE okE rfl _ _ rfl B (.slice p5 g c5) G [x] rfl HS3.out.o _ rfl HO.out HS3.out.new HLE.out (fun v5 w5 ho hgw => ?_); refine Hid.out ?_))
              have HS4 := Lib.hid (HS3.out.app ho hgw)
              rw [← HST2.out] at HS4
              clear ho hgw HS3 HO HS2 RX2
              refine Lib.hid ?_
              go_wp2_with fail
              go_roundg (p - (j + 1))
              case measure => omega
              case rel => exact ⟨j + 1, by omega, by go_num, HS4.out⟩
          · have hjI : ¬ (j : Int) + 1 ≤ (p : Int) := by omega
            have hjp : j = p := by have := HJ.out; omega
            have HS1 := Lib.hid (HS.out.to (show gridD D p k ++ rowD D k j = gridD D p (k + 1) by rw [gridD_step, hjp]))
            have hk9 : k < 1000 := by have := HU.out; omega
            go_wp2_with fail
            go_roundg (u - (k + 1))
            case measure => omega
            case rel => exact ⟨k + 1, by omega, by go_num, HS1.out⟩
      · have hltI : ¬ (k : Int) < (u : Int) := by omega
        have hku : k = u := by have := HK.out; omega
        rw [hku] at HS
        go_wp2_with fail
        go_ret
        exact ⟨_, rfl, HS.out.o.mono (Nat.le_of_lt HS.out.old), HS.out.kept⟩
  · have HE := Lib.hid (show edgL U P R L = [] by unfold edgL; rw [← hes, if_neg h0])
    clear hes
    go_enter Try.func11, Try.ntmps11
    go_wp2_with (first
      | (refine wpList_load_row rfl 24 _ rfl w.heap.size rfl 24 (sca U P R q n c) (0, 0) _ RS0.out Try.underlying24 rfl infoS4 ?_)
      | (go_at_call 12; refine HC.out.mono ?_; rintro e W1 ⟨m, rfl, hm, hb⟩; refine Hid.out ?_))
    have HB1 := Lib.hid (HB0.out.trans (hb.mono HB0.out.size))
    clear hb hm HC RS0 HB0
    refine Lib.hid ?_
    go_wp2_with fail
    go_ret
    exact ⟨_, rfl, by rw [HE.out]; exact KOwns.nil _ _, HB1.out⟩
end Go.Proofs.Ytgmfmmabegcocaa
