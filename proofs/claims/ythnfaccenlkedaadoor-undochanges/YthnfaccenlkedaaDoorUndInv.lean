/-
  The walk of Inverse of package undo.
-/
import Derived.Test.YthnfaccenlkedaaDoorUndDiff
import Derived.Test.YthnfaccenlkedaaDoorModLaw
namespace Go.Proofs.YthnfaccenlkedaaDoor
set_option maxRecDepth 20000
open Go.RowKit

theorem res_three {fn : Func} {a p u : Tmp} {ty : TypeId} (h : fn.results = #[.tmp a, .cell p ty, .tmp u]) {tmps : Array Value} {P : Program} {w : World} {g : Nat} {t : TypeId} {cs : Array Value} {d : TypeDesc} {x y : Value}
    (ha : tmps.getD a undef = x) (hp : tmps.getD p undef = .pointer (some ⟨g, 0, none⟩)) (hx : tmps.getD u undef = y) (hg : Blk g cs t w)
    (hu : P.underlying ty = some d) (hd : d.isRow = true) (hi : (P.info? ty).map (·.size) = some cs.size) :
    (results fn tmps).run P w = .ok (.tuple #[x, .agg cs, y]) w := by
  have e := run_loadVar_row (P := P) w g t ty cs (0, 0) d hg hu (by cases d <;> first | rfl | (simp [TypeDesc.isRow] at hd)) hi
  simp only [results, h]
  rw [Array.getD_eq_getD_getElem?] at hp ha hx
  simp [hp, ha, hx, asAddr, e]
/-- what goes and comes by a change -/
def invG (us : List Ru) (m : Mu) (room : Int) : List Ru := if applyE us m room = 0 then difG us (applyL us m) else []
def invN (us : List Ru) (m : Mu) (room : Int) : List Ru := if applyE us m room = 0 then difG (applyL us m) us else []
/-- what Inverse gives: three lists of one's own -/
def InvRet (w : World) (us : List Ru) (m : Mu) (room : Int) (e : Ending) (w' : World) : Prop :=
  ∃ v L x1 L1 x2 L2, e = .returned (.tuple #[v, .agg #[x1, x2], .int .i64 (applyE us m room)]) ∧ L.map (·.u) = applyV us m room ∧ L1.map (·.u) = invG us m room ∧ L2.map (·.u) = invN us m room ∧ InS w v L w' ∧ InS w x1 L1 w' ∧ InS w x2 L2 w'
/-- a list of one's own, with a row ahead of it written, further up -/
theorem InS.row1 {w0 w1 W : World} {x : Value} {L : List Rm} {B : Nat} (h : InS w1 x L W) (hB : w0.heap.size ≤ B) (he : B < w1.heap.size) (hb : Below w0.heap.size w0 w1) (vs : Array Value) : InS w0 x L (W.setRow B vs) :=
  ⟨(KOwns.other h.1 fun k hk _ => setRow_other _ _ _ _ (by omega)).mono hb.size, fun y hy => KOwns.mono (KOwns.other (h.2.1 y hy) fun k hk _ => setRow_other _ _ _ _ (by omega)) hb.size,
    below_setRow (hb.trans (h.2.2.mono hb.size)) hB vs⟩
/-- the list, the change in its box, the patch's box -/
def IvS (w0 : World) (v : Value) (l : List Rm) (m : Mm) (W : World) : Prop := ApS w0 v l m W ∧ Blk (w0.heap.size + 1) nilP 25 W
theorem IvS.below {w0 : World} {v : Value} {l : List Rm} {m : Mm} {W W' : World} (hb : Below W.heap.size W W') (h : IvS w0 v l m W) : IvS w0 v l m W' := ⟨ApS.below hb h.1, h.2.below hb⟩
set_option maxHeartbeats 2000000 in
theorem inverse_any (v : Value) (l : List Rm) (hlen : l.length ≤ 9000) (hwl : WfRL l) (m : Mm) (hw : WfM m.u) (room : Int) (w : World) (hl : RLies v l w) (ha : InM m w) (ht : Tab w) (hz : 0 < w.heap.size) :
    Calls Tryd.prog 16 #[v, .agg (mca m), .int .i64 room] w (InvRet w (l.map (·.u)) m.u room) := by
  obtain ⟨p, cap, rfl⟩ := hl.1.form
  have HS := Lib.hid (show IvS w (.slice p l.length cap) l m ((w.alloc (.cells (mca m) 44)).alloc (.cells nilP 25)) from
    ⟨ApS.below (below1 _ _) ⟨hl.below (below1 _ _), ha.below (below1 _ _), Blk.new _ _ _, (Env.start ht hz).alloc _⟩, Blk.new2 _ _ _ _⟩)
  have HSz := Lib.hid (show ((w.alloc (.cells (mca m) 44)).alloc (.cells nilP 25)).heap.size = w.heap.size + 2 from by first | rfl | simp)
  have HWL := Lib.hid hwl
  have HW := Lib.hid hw
  obtain ⟨us, hus⟩ : ∃ us, us = l.map (·.u) := ⟨_, rfl⟩
  rw [← hus]
  have HUS := Lib.hid hus
  clear hl ha hwl hw ht hus
  go_enter Tryd.func16, Tryd.ntmps16
  go_upto_region 1 with fail
  change Hid (IvS w (.slice p l.length cap) l m ((w.alloc (.cells (mca m) 44)).alloc (.cells #[.slice none 0 0, .slice none 0 0] 25))) at HS
  change Hid (((w.alloc (.cells (mca m) 44)).alloc (.cells #[.slice none 0 0, .slice none 0 0] 25)).heap.size = w.heap.size + 2) at HSz
  generalize (w.alloc (.cells (mca m) 44)).alloc (.cells #[.slice none 0 0, .slice none 0 0] 25) = W1 at *
  have RM := Lib.hid HS.out.1.2.2.1
  have HA := Lib.hid (apply_any _ l (by omega) HWL.out m HW.out room W1 HS.out.1.1 HS.out.1.2.1 HS.out.1.2.2.2.tab HS.out.1.2.2.2.lt)
  rw [← HUS.out] at HA
  obtain ⟨E, hE⟩ : ∃ E, E = applyE us m.u room := ⟨_, rfl⟩
  have HEE := Lib.hid hE
  unfold ApRet at HA
  rw [← hE] at HA
  clear hE
  go_wp2_with (first
    | (refine wpList_load_row rfl 44 _ rfl w.heap.size rfl 44 (mca m) (0, 0) _ RM.out Tryd.underlying44 rfl infoM ?_)
    | (go_at_call 28; refine HA.out.mono ?_; rintro e w2 ⟨v2, L, rfl, hu2, hi2⟩; refine Hid.out ?_))
  have HU := Lib.hid hu2
  have HI := Lib.hid hi2
  have HS2 := Lib.hid (IvS.below hi2.2.2 HS.out)
  have HB1 := Lib.hid HS.out.1.2.2.2.kept
  obtain ⟨p2, c2, rfl⟩ := hi2.1.form
  clear hu2 hi2 HA RM HS
  by_cases h0 : E = 0
  · have h0d : (E != 0) = false := by rw [h0]; rfl
    have HE0 := Lib.hid h0
    have HV := Lib.hid (show applyV us m.u room = applyL us m.u by unfold applyV; rw [if_pos (by rw [← HEE.out]; exact h0)])
    have hLlen : L.length ≤ 9001 := by
      have h1 := congrArg List.length (HU.out.trans HV.out)
      have h2 := (apply_len us m.u).1
      rw [List.length_map] at h1
      have h3 := congrArg List.length HUS.out
      rw [List.length_map] at h3
      omega
    have HWL2 := Lib.hid (show WfRL L from wf_app HWL.out HW.out (by rw [← HUS.out]; exact HU.out.trans HV.out))
    clear h0
    have HD := Lib.hid (diff_any _ _ l L (by omega) (by omega) HWL.out HWL2.out w2 HS2.out.1.1 HI.out.lies HS2.out.1.2.2.2.tab HS2.out.1.2.2.2.lt)
    rw [← HUS.out, HU.out, HV.out] at HD
    refine Lib.hid ?_
    go_wp2_with (go_at_call 9; refine HD.out.mono ?_; rintro e w3 ⟨x1, L1, x2, L2, rfl, hu1, hu2, hi1, hi2⟩; refine Hid.out ?_)
    have RP := Lib.hid (HS2.out.2.below hi1.2.2)
    have HI3 := Lib.hid (HI.out.below hi1.2.2)
    have HB2 := Lib.hid (HI.out.2.2)
    have HX1 := Lib.hid hi1
    have HX2 := Lib.hid hi2
    have HU1 := Lib.hid hu1
    have HU2 := Lib.hid hu2
    obtain ⟨q1, d1, rfl⟩ := hi1.1.form
    obtain ⟨q2, d2, rfl⟩ := hi2.1.form
    clear hu1 hu2 hi1 hi2 HD HS2 HI
    refine Lib.hid ?_
    go_wp2_with (refine wpList_store_row rfl 25 _ _ rfl (w.heap.size + 1) #[.slice q1 L1.length d1, .slice q2 L2.length d2] rfl rfl 25 _ RP.out (by kernel_rfl) rfl (by simp [Value.oneCell']) ?_)
    have hs1 := HSz.out
    have hs2 := HB2.out.size
    refine bodyPost_ret (v := .tuple #[.slice p2 L.length c2, .agg #[.slice q1 L1.length d1, .slice q2 L2.length d2], .int .i64 0]) ?_ rfl
      ⟨_, L, _, L1, _, L2, by rw [← HEE.out, HE0.out], HU.out, ?_, ?_, HI3.out.row1 (by omega) (by omega) HB1.out _, HX1.out.row1 (by omega) (by omega) (HB1.out.trans (HB2.out.mono HB1.out.size)) _, HX2.out.row1 (by omega) (by omega) (HB1.out.trans (HB2.out.mono HB1.out.size)) _⟩
    · exact res_three Tryd.results16 (cs := #[.slice q1 L1.length d1, .slice q2 L2.length d2]) rfl rfl rfl (RP.out.rset _) Tryd.underlying25 rfl (by kernel_rfl)
    · unfold invG
      rw [if_pos (by rw [← HEE.out]; exact HE0.out)]
      exact HU1.out
    · unfold invN
      rw [if_pos (by rw [← HEE.out]; exact HE0.out)]
      exact HU2.out
  · have h0d : (E != 0) = true := by simpa using h0
    have HE0 := Lib.hid h0
    have RP := Lib.hid HS2.out.2
    clear h0
    refine Lib.hid ?_
    go_wp2_with (first
      | (refine buildP0 rfl rfl ?_)
      | (refine wpList_store_row rfl 25 _ _ rfl (w.heap.size + 1) nilP rfl rfl 25 _ RP.out (by kernel_rfl) rfl (by kernel_rfl) ?_))
    have hs1 := HSz.out
    have HB := Lib.hid (below_setRow (HS2.out.1.2.2.2.kept) (show w.heap.size ≤ w.heap.size + 1 by omega) nilP)
    refine bodyPost_ret (v := .tuple #[.slice none 0 0, .agg nilP, .int .i64 E]) ?_ rfl
      ⟨_, [], _, [], _, [], by rw [← HEE.out]; rfl, ?_, ?_, ?_, InS.none HB.out, InS.none HB.out, InS.none HB.out⟩
    · exact res_three Tryd.results16 (cs := nilP) rfl rfl rfl (RP.out.rset _) Tryd.underlying25 rfl (by kernel_rfl)
    · unfold applyV
      rw [if_neg (by rw [← HEE.out]; exact HE0.out)]
      rfl
    · unfold invG
      rw [if_neg (by rw [← HEE.out]; exact HE0.out)]
      rfl
    · unfold invN
      rw [if_neg (by rw [← HEE.out]; exact HE0.out)]
      rfl
end Go.Proofs.YthnfaccenlkedaaDoor
