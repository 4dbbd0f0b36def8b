/-
  What the laws on messages share: answers, small.
-/
import Derived.Test.YtndgbgolmpoepaaDoorCodDec
namespace Go.Proofs.YtndgbgolmpoepaaDoor
set_option maxRecDepth 20000
open Go.RowKit

theorem g2_u (k t : Int) : (g2 k t).u = ⟨k, t, 0, zMu, 0, zHd, []⟩ := rfl
theorem g2_wf (k t : Int) : WfMs (g2 k t).u := wf_plain wfU_nil
theorem g2_can (k t : Int) : CanMs (g2 k t).u := can_plain canL_nil
theorem g2_in (k t : Int) (W : World) : InG (g2 k t) W := ⟨zMm_in _, rlies_none _⟩
theorem g2_snd (k t : Int) (hk : k = 2 ∨ k = 3 ∨ k = 4 ∨ k = 5 ∨ k = 7) (h0 : 0 ≤ t) (h1 : t ≤ 4294967295) : sndMs (g2 k t).u = true := by
  rw [sndMs_C]
  have e1 : (g2 k t).u.txn = t := rfl
  rw [e1, decide_eq_true h0, decide_eq_true h1]
  have e2 : (g2 k t).u.kind = k := rfl
  unfold sndC
  rw [e2, if_neg (by omega), if_neg (by omega), if_neg (by omega), if_neg (by omega), if_neg (by omega), if_pos hk]
  show emptyB ⟨k, t, 0, zMu, 0, zHd, []⟩ = true
  unfold emptyB
  simp [mEq_self, hEq_refl]
theorem g2_enc (k t : Int) (hk : k = 2 ∨ k = 3 ∨ k = 4 ∨ k = 5 ∨ k = 7) : encMs (g2 k t).u = numB 1 k ++ numB 4 t := by
  have e2 : (g2 k t).u.kind = k := rfl
  unfold encMs bodyL
  rw [e2, if_neg (by omega), if_neg (by omega), if_neg (by omega), if_neg (by omega), List.append_nil]
  show numB 1 k ++ (numB 4 t ++ []) = _
  rw [List.append_nil]
theorem u_kind {g : Gm} {u : Ms} (h : g.u = u) : g.kind = u.kind := by rw [← h]; rfl
theorem u_txn {g : Gm} {u : Ms} (h : g.u = u) : g.txn = u.txn := by rw [← h]; rfl
set_option maxHeartbeats 4000000 in
theorem canswers9 (w : World) (ht : Tab w) (hz : 0 < w.heap.size) :
    Calls Tryd.prog 10 #[] w fun e w' => e = .returned (.bool true) ∧ Below w.heap.size w w' := by
  have hs := g2_snd 2 7 (.inl rfl) (by decide) (by decide)
  have HC := Lib.hid (enc_any (g2 2 7) (g2_wf 2 7) w (g2_in 2 7 w) ht hz)
  rw [show encE (g2 2 7).u = 0 by unfold encE; rw [if_pos hs], show encV (g2 2 7).u = encMs (g2 2 7).u by unfold encV; rw [if_pos hs]] at HC
  have hd := Lib.hid (dec_enc hs (g2_wf 2 7) (g2_can 2 7))
  have hl : encMs (g2 2 7).u = [2, 0, 0, 0, 7] := by rw [g2_enc 2 7 (.inl rfl)]; decide
  have HT := Lib.hid (fun (W : World) (hb : Below w.heap.size w W) => Env.of ht hz hb)
  rw [hl] at HC hd
  clear ht hs hl
  go_enter Tryd.func10, Tryd.ntmps10
  go_wp2_with (first
    | (refine buildG rfl _ _ rfl 2 7 rfl rfl ?_)
    | (go_at_call 11; refine HC.out.mono ?_; rintro e W1 ⟨v, rfl, ho, hw⟩; refine Hid.out ?_))
  have HB1 := Lib.hid hw
  have HK1 := Lib.hid (ho.lies okB)
  have hby : ByL [2, 0, 0, 0, 7] := fun x hx => by
    simp only [List.mem_cons, List.not_mem_nil, or_false] at hx
    omega
  have HC1 := Lib.hid (dec_any v [2, 0, 0, 0, 7] hby W1 HK1.out (HT.out W1 hw).tab (HT.out W1 hw).lt)
  have HBY := Lib.hid hby
  rw [hd.out.1, hd.out.2] at HC1
  clear hw ho HC hby hd
  refine Lib.hid ?_
  go_upto_region 3 with (first
    | (go_at_call 14; refine HC1.out.mono ?_; rintro e W2 ⟨g, rfl, hg, hi, hw⟩; have HG := Lib.hid hg; have HB2 := Lib.hid (HB1.out.trans (hw.mono HB1.out.size)); have HK2 := Lib.hid (HK1.out.below okB hw); clear hg hi hw)
    | (refine wpList_store_row rfl 33 _ _ rfl W2.heap.size (gca g) rfl rfl 33 _ (heap_alloc_new _ _) (by kernel_rfl) rfl (gca_one _) ?_; rw [World.setRow_alloc_new]))
  have R3 := Lib.hid (Blk.new W2 (gca g) 33)
  have HB3 := Lib.hid (HB2.out.trans ((below1 W2 (.cells (gca g) 33)).mono HB2.out.size))
  have hcv := conv_lies (HK2.out.below okB (below1 W2 (.cells (gca g) 33))) HBY.out
  generalize W2.alloc (.cells (gca g) 33) = W3 at *
  have k0 := R3.out.cellsG.kind
  have k1 := R3.out.cellsG.txn
  rw [u_kind HG.out] at k0
  rw [u_txn HG.out] at k1
  have k0 : W3.cell? ⟨W2.heap.size, 0, none⟩ = some (.int .i64 2) := k0
  have k1 : W3.cell? ⟨W2.heap.size, 1, none⟩ = some (.int .i64 7) := k1
  have hu : (u8L [2, 0, 0, 0, 7] : List UInt8) = [2, 0, 0, 0, 7] := by decide
  rw [hu] at hcv
  go_wp2_with fail
  go_ret
  exact ⟨rfl, HB3.out⟩
/-- is a message not too large? -/
def smallB (g : Gm) : Bool := decide (g.rs.length ≤ 40) && decide (g.mod.u.acts.length ≤ 300)
set_option maxHeartbeats 2000000 in
theorem small_any (g : Gm) (w : World) (hi : InG g w) : Calls Tryd.prog 9 #[.agg (gca g)] w fun e w' => e = .returned (.bool (smallB g)) ∧ Below w.heap.size w w' := by
  have R0 := Lib.hid (Blk.new w (gca g) 33)
  have HB := Lib.hid (below1 w (.cells (gca g) 33))
  have k47 := R0.out.cellsG.rules
  have r := R0.out.cellsG.mod
  have k29 : (w.alloc (.cells (gca g) 33)).cell? ⟨w.heap.size, 29, none⟩ = some (.slice g.mod.q g.mod.n g.mod.c) := r 26 _ (mcl_ge g.mod 1)
  obtain ⟨y, hy⟩ : ∃ y, y = smallB g := ⟨_, rfl⟩
  rw [← hy]
  unfold smallB at hy
  rw [← hi.len, ← hi.1.len] at hy
  have HY := Lib.hid hy
  clear hy hi r
  by_cases h1 : g.n ≤ 40
  rotate_left
  · have h1I : ¬ ((g.n : Nat) : Int) ≤ 40 := by omega
    go_enter Tryd.func9, Tryd.ntmps9
    go_wp2_with fail
    go_ret
    exact ⟨ret_bool (by rw [HY.out, show decide (g.n ≤ 40) = false from decide_eq_false (by omega)]; rfl), HB.out⟩
  have h1I : ((g.n : Nat) : Int) ≤ 40 := by omega
  by_cases h2 : g.mod.n ≤ 300
  · have h2I : ((g.mod.n : Nat) : Int) ≤ 300 := by omega
    go_enter Tryd.func9, Tryd.ntmps9
    go_wp2_with fail
    go_ret
    exact ⟨ret_bool (by rw [HY.out, show decide (g.n ≤ 40) = true from decide_eq_true (by omega), show decide (g.mod.n ≤ 300) = true from decide_eq_true (by omega)]; rfl), HB.out⟩
  · have h2I : ¬ ((g.mod.n : Nat) : Int) ≤ 300 := by omega
    go_enter Tryd.func9, Tryd.ntmps9
    go_wp2_with fail
    go_ret
    exact ⟨ret_bool (by rw [HY.out, show decide (g.n ≤ 40) = true from decide_eq_true (by omega), show decide (g.mod.n ≤ 300) = false from decide_eq_false (by omega)]; rfl), HB.out⟩
end Go.Proofs.YtndgbgolmpoepaaDoor
