/-
  What a program that does nothing does not answer.
-/
import Derived.Test.YtgmfmmabegcocaaTopRot
namespace Go.Proofs.Ytgmfmmabegcocaa
set_option maxRecDepth 20000
open Go.RowKit

theorem zeroKN : ((Try.prog.info? KN.T).bind (·.zero)).map (·.cells) = some #[Value.int .i64 0, .int .i64 0, .int .i64 0, .int .i64 0] := by kernel_rfl
theorem fillN (x : Ln) : Instr.fill (fun i' => some (i' * 4, 4)) ((Array.range (1 * 4)).map ((#[Value.int .i64 0, .int .i64 0, .int .i64 0, .int .i64 0] : Array Value)[· % (#[Value.int .i64 0, .int .i64 0, .int .i64 0, .int .i64 0] : Array Value).size]!)) [(0, .agg (lca x))] = some (lca x) := by kernel_rfl
theorem oneN (x : Ln) (W : World) : KLies KN (.slice (some ⟨W.heap.size, 0, none⟩) 1 1) [x] (W.alloc (.cells (lca x) 36)) := Blk.klies (K := KN) (l := [x]) (Blk.new W (lca x) KN.T) okN rfl
/-- the look's setup has one link -/
def L0 : List Ln := [((0, 1), (1, 1))]
def l0c : Array Value := #[.int .i64 0, .int .i64 1, .int .i64 1, .int .i64 1]
theorem l0_fault : fault 2 1 0 L0 = 0 := by decide
theorem l0_lead : leadV (mapL 2 1 0 L0) (0, 1) = (1, 1) ∧ leadB (mapL 2 1 0 L0) (0, 1) = true := by decide
theorem l0_none : fault 0 0 0 [] = 13 := by decide
theorem sca_one (U P R : Int) (q : Option Addr) (n c : Nat) : (sca U P R q n c).all (·.oneCell') = true := by simp [sca, Value.oneCell']
theorem setRow_new2 (w : World) (A : Obj) (c c' : Array Value) (t : TypeId) : ((w.alloc A).alloc (.cells c t)).setRow (w.heap.size + 1) c' = (w.alloc A).alloc (.cells c' t) := by
  have e : (w.alloc A).heap.size = w.heap.size + 1 := by simp
  have h := World.setRow_alloc_new (w.alloc A) c c' t
  rw [e] at h
  exact h
set_option maxHeartbeats 2000000 in
theorem answers12 (w : World) : Calls Try.prog 6 #[] w fun e w' => e = .returned (.bool true) ∧ Below w.heap.size w w' := by
  have HB0 := Lib.hid (below1 w (.cells l0c 36))
  have HB1 := Lib.hid (HB0.out.trans ((below1 (w.alloc (.cells l0c 36)) (.cells (sca 2 1 0 (some ⟨w.heap.size, 0, none⟩) 1 1) 24)).mono HB0.out.size))
  have RS := Lib.hid (Blk.new2 w (.cells l0c 36) (sca 2 1 0 (some ⟨w.heap.size, 0, none⟩) 1 1) 24)
  have HL := Lib.hid (KLies.below (show KLies KN (.slice (some ⟨w.heap.size, 0, none⟩) 1 1) L0 (w.alloc (.cells l0c 36)) from oneN ((0, 1), (1, 1)) w) okN (below1 (w.alloc (.cells l0c 36)) (.cells (sca 2 1 0 (some ⟨w.heap.size, 0, none⟩) 1 1) 24)))
  clear HB0
  go_enter Try.func6, Try.ntmps6
  go_upto_region 2 with (first
    | (refine kbuildOne KN okN #[.int .i64 0, .int .i64 0, .int .i64 0, .int .i64 0] zeroKN rfl _ rfl l0c rfl (by decide) (fillN ((0, 1), (1, 1))) ?_)
    | (refine wpList_store_row rfl 24 _ _ rfl (w.heap.size + 1) (sca 2 1 0 (some ⟨w.heap.size, 0, none⟩) 1 1) rfl rfl 24 _ (heap_alloc2_new _ _ _) infoS4 rfl (sca_one _ _ _ _ _ _) ?_; rw [setRow_new2]))
  have HC := Lib.hid (tother_any 2 1 0 (some ⟨w.heap.size, 0, none⟩) 1 1 L0 (by decide) (0, 1) _ HL.out)
  rw [l0_lead.1, l0_lead.2] at HC
  generalize (w.alloc (.cells l0c 36)).alloc (.cells (sca 2 1 0 (some ⟨w.heap.size, 0, none⟩) 1 1) 24) = W1 at *
  go_wp2_with (first
    | (refine wpList_load_row rfl 24 _ rfl (w.heap.size + 1) rfl 24 (sca 2 1 0 (some ⟨w.heap.size, 0, none⟩) 1 1) (0, 0) _ RS.out Try.underlying24 rfl infoS4 ?_)
    | (go_at_call 7; refine HC.out.mono ?_; rintro e W2 ⟨rfl, hb⟩; refine Hid.out ?_))
  have HB2 := Lib.hid (HB1.out.trans (hb.mono HB1.out.size))
  have RS2 := Lib.hid (RS.out.below hb)
  have HL2 := Lib.hid (HL.out.below okN hb)
  obtain ⟨b2, hb2⟩ : ∃ b2, b2 = W2.heap.size := ⟨_, rfl⟩
  clear hb HC RS HL HB1
  refine Lib.hid ?_
  go_upto_region 3 with (refine wpList_store_row rfl 26 _ _ rfl W2.heap.size #[.int .i64 1, .int .i64 1] rfl rfl 26 _ (heap_alloc_new _ _) infoE rfl (eca_one (1, 1)) ?_; rw [World.setRow_alloc_new])
  have hb := below1 W2 (.cells #[.int .i64 1, .int .i64 1] 26)
  have HB3 := Lib.hid (HB2.out.trans (hb.mono HB2.out.size))
  have RS3 := Lib.hid (RS2.out.below hb)
  have HL3 := Lib.hid (HL2.out.below okN hb)
  have RE3 := Lib.hid (Blk.new W2 #[.int .i64 1, .int .i64 1] 26)
  rw [← hb2] at RE3 ⊢
  clear hb HB2 RS2 HL2 hb2
  generalize W2.alloc (.cells #[.int .i64 1, .int .i64 1] 26) = W3 at *
  have HC := Lib.hid (tsound_any 2 1 0 (some ⟨w.heap.size, 0, none⟩) 1 1 L0 (by decide) W3 HL3.out)
  rw [l0_fault] at HC
  go_wp2_with (first
    | (refine wpList_load_row rfl 24 _ rfl (w.heap.size + 1) rfl 24 (sca 2 1 0 (some ⟨w.heap.size, 0, none⟩) 1 1) (0, 0) _ RS3.out Try.underlying24 rfl infoS4 ?_)
    | (go_at_call 9; refine HC.out.mono ?_; rintro e W4 ⟨rfl, hb⟩; refine Hid.out ?_))
  have HB4 := Lib.hid (HB3.out.trans (hb.mono HB3.out.size))
  have RE4 := Lib.hid (RE3.out.below hb)
  have k0 : W4.cell? ⟨b2, 0, none⟩ = some (.int .i64 1) := (cell_of_row _ b2 0 _ _ _ RE4.out).trans rfl
  have HC4 := Lib.hid (tsound_any 0 0 0 none 0 0 [] (by decide) W4 (.inl ⟨rfl, rfl⟩))
  rw [l0_none] at HC4
  clear hb HC RS3 HL3 HB3 RE3
  refine Lib.hid ?_
  go_wp2_with (go_at_call 9; refine HC4.out.mono ?_; rintro e W5 ⟨rfl, hb⟩; refine Hid.out ?_)
  have HB5 := Lib.hid (HB4.out.trans (hb.mono HB4.out.size))
  clear hb HC4 k0 RE4
  refine Lib.hid ?_
  go_wp2_with fail
  go_ret
  exact ⟨rfl, HB5.out⟩
end Go.Proofs.Ytgmfmmabegcocaa
