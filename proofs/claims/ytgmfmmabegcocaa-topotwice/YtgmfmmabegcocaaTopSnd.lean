/-
  Sound and Other.
-/
import Derived.Test.YtgmfmmabegcocaaTopOth
namespace Go.Proofs.Ytgmfmmabegcocaa
set_option maxRecDepth 20000
open Go.RowKit

set_option maxHeartbeats 2000000 in
theorem tsound_any (U P R : Int) (q : Option Addr) (n c : Nat) (L : List Ln) (hlen : L.length ≤ 1000000) (w : World) (hl : KLies KN (.slice q n c) L w) :
    Calls Try.prog 9 #[.agg (sca U P R q n c)] w fun e w' => e = .returned (.int .i64 (fault U P R L)) ∧ Below w.heap.size w w' := by
  have HB0 := Lib.hid (below1 w (.cells (sca U P R q n c) 24))
  have RS0 := Lib.hid (Blk.new w (sca U P R q n c) 24)
  have HC := Lib.hid (others_any U P R q n c L hlen (w.alloc (.cells (sca U P R q n c) 24)) (hl.below okN HB0.out))
  clear hl
  go_enter Try.func9, Try.ntmps9
  go_wp2_with (first
    | (refine wpList_load_row rfl 24 _ rfl w.heap.size rfl 24 (sca U P R q n c) (0, 0) _ RS0.out Try.underlying24 rfl infoS4 ?_)
    | (go_at_call 12; refine HC.out.mono ?_; rintro e W1 ⟨m, rfl, hm, hb⟩; refine Hid.out ?_))
  have HB1 := Lib.hid (HB0.out.trans (hb.mono HB0.out.size))
  clear hb hm HC RS0 HB0
  refine Lib.hid ?_
  go_wp2_with fail
  go_ret
  exact ⟨rfl, HB1.out⟩
theorem res_twoE {fn : Func} {p u : Tmp} (h : fn.results = #[.cell p 26, .tmp u]) {tmps : Array Value} {w : World} {g : Nat} {cs : Array Value} {x : Value}
    (hp : tmps.getD p undef = .pointer (some ⟨g, 0, none⟩)) (hx : tmps.getD u undef = x) (hg : Blk g cs 26 w) (hi : cs.size = 2) :
    (results fn tmps).run Try.prog w = .ok (.tuple #[.agg cs, x]) w := by
  rw [results_cell_tmp h, hp, hx]
  simp [asAddr, run_loadVar_row w g 26 26 cs (0, 0) _ hg Try.underlying26 rfl (by rw [hi]; exact infoE)]
set_option maxHeartbeats 4000000 in
theorem tother_any (U P R : Int) (q : Option Addr) (n c : Nat) (L : List Ln) (hlen : L.length ≤ 1000000) (x : En) (w : World) (hl : KLies KN (.slice q n c) L w) :
    Calls Try.prog 7 #[.agg (sca U P R q n c), eV x] w fun e w' => e = .returned (.tuple #[eV (leadV (mapL U P R L) x), .bool (leadB (mapL U P R L) x)]) ∧ Below w.heap.size w w' := by
  have hb1 := below1 w (.cells (sca U P R q n c) 24)
  have hb2 := below1 (w.alloc (.cells (sca U P R q n c) 24)) (.cells (eca x) 26)
  have hb3 := below1 ((w.alloc (.cells (sca U P R q n c) 24)).alloc (.cells (eca x) 26)) (.cells #[.int .i64 0, .int .i64 0] 26)
  have RS0 := Lib.hid (((Blk.new w (sca U P R q n c) 24).below hb2).below hb3)
  have RE0 := Lib.hid ((Blk.new2 w (.cells (sca U P R q n c) 24) (eca x) 26).below hb3)
  have RZ0 := Lib.hid (Blk.new3 w (.cells (sca U P R q n c) 24) (.cells (eca x) 26) #[.int .i64 0, .int .i64 0] 26)
  have HB0 := Lib.hid (hb1.trans ((hb2.trans (hb3.mono hb2.size)).mono hb1.size))
  have HL0 := Lib.hid (hl.below okN HB0.out)
  clear hb1 hb2 hb3 hl
  obtain ⟨v, hv⟩ : ∃ v, v = leadV (mapL U P R L) x := ⟨_, rfl⟩
  obtain ⟨y, hy⟩ : ∃ y, y = leadB (mapL U P R L) x := ⟨_, rfl⟩
  have HV := Lib.hid (show ((mapL U P R L).lookup x).getD (0, 0) = v ∧ ((mapL U P R L).lookup x).isSome = y from ⟨hv.symm, hy.symm⟩)
  rw [← hv, ← hy]
  clear hv hy
  go_enter Try.func7, Try.ntmps7
  go_upto_region 1 with fail
  generalize ((w.alloc (.cells (sca U P R q n c) 24)).alloc (.cells (eca x) 26)).alloc (.cells #[.int .i64 0, .int .i64 0] 26) = W0 at *
  have HC := Lib.hid (others_any U P R q n c L hlen W0 HL0.out)
  go_wp2_with (first
    | (refine wpList_load_row rfl 24 _ rfl w.heap.size rfl 24 (sca U P R q n c) (0, 0) _ RS0.out Try.underlying24 rfl infoS4 ?_)
    | (go_at_call 12; refine HC.out.mono ?_; rintro e W1 ⟨m, rfl, hm, hb⟩; refine Hid.out ?_))
  have HB1 := Lib.hid (HB0.out.trans (hb.mono HB0.out.size))
  have RE1 := Lib.hid (RE0.out.below hb)
  have RZ1 := Lib.hid (RZ0.out.below hb)
  have HM := Lib.hid hm
  obtain ⟨b8, hb8⟩ : ∃ b8, b8 = W1.heap.size := ⟨_, rfl⟩
  have HLT := Lib.hid (show w.heap.size ≤ W1.heap.size from HB1.out.size)
  clear hb hm HC RS0 HB0 HL0 RE0 RZ0
  refine Lib.hid ?_
  go_upto_region 3 with (first
    | (refine wpList_load_row rfl 26 _ rfl (w.heap.size + 1) rfl 26 (eca x) (0, 0) _ RE1.out Try.underlying26 rfl infoE ?_)
    | (refine wpLook rfl _ _ rfl m (mapL U P R L) rfl HM.out x rfl ?_; rw [HV.out.1, HV.out.2])
    | (refine wpList_store_row rfl 26 _ _ rfl W1.heap.size (eca v) rfl rfl 26 _ (heap_alloc_new _ _) infoE rfl (eca_one v) ?_; rw [World.setRow_alloc_new]))
  have RV := Lib.hid (Blk.new W1 (eca v) 26)
  have hb1 := below1 W1 (.cells (eca v) 26)
  have RZ2 := Lib.hid (RZ1.out.below hb1)
  have HB2 := Lib.hid (HB1.out.trans (hb1.mono HB1.out.size))
  clear hb1 RZ1 HB1 RE1 HM
  rw [← hb8] at RV ⊢
  clear hb8
  generalize W1.alloc (.cells (eca v) 26) = W2 at *
  go_wp2_with (first
    | (refine wpList_load_row rfl 26 _ rfl b8 rfl 26 (eca v) (0, 0) _ RV.out Try.underlying26 rfl infoE ?_)
    | (refine wpList_store_row rfl 26 _ _ rfl (w.heap.size + 1 + 1) (eca v) rfl rfl 26 _ RZ2.out infoE rfl (eca_one v) ?_))
  refine bodyPost_ret (v := .tuple #[eV v, .bool y]) ?_ rfl ⟨rfl, below_setRow HB2.out (by omega) _⟩
  exact res_twoE Try.results7 (cs := eca v) rfl rfl (RZ2.out.rset _) rfl
end Go.Proofs.Ytgmfmmabegcocaa
