/-
  Same of package code, SameMsgs of the reference.
-/
import Derived.Test.YtndgbgolmpoepaaDoorCodSnd
namespace Go.Proofs.YtndgbgolmpoepaaDoor
set_option maxRecDepth 20000
open Go.RowKit

theorem eqlHH (a b : Nat → Int) (w : World) : (Op.equalIn 10000 25 (.agg (hl a).toArray) (.agg (hl b).toArray)).run Tryd.prog w = .ok (hEq a b) w := eql_head a b w
theorem bneT {a b : Int} (h : a ≠ b) : (a != b) = true := by simpa using h
theorem bneF {a b : Int} (h : a = b) : (a != b) = false := by simpa using h
theorem msEq_bits (a b : Gm) : msEq a.u b.u = ((a.kind == b.kind) && ((a.txn == b.txn) && ((a.e == b.e) && (mEq a.mod.u b.mod.u && ((a.port == b.port) && (hEq a.head b.head && sameL (a.rs.map (·.u)) (b.rs.map (·.u)))))))) := rfl
/-- two messages lie in boxes -/
def TwG (w : World) (B1 B2 : Nat) (a b : Gm) (W : World) : Prop := Blk B1 (gca a) 33 W ∧ Blk B2 (gca b) 33 W ∧ Below w.heap.size w W
theorem TwG.below {w W W' : World} {B1 B2 : Nat} {a b : Gm} (hb : Below W.heap.size W W') (h : TwG w B1 B2 a b W) : TwG w B1 B2 a b W' := ⟨h.1.below hb, h.2.1.below hb, h.2.2.trans (hb.mono h.2.2.size)⟩

set_option maxHeartbeats 4000000 in
theorem csame_any (a b : Gm) (hla : a.rs.length ≤ 1000000) (hwb : WfRL b.rs) (hlm : b.mod.u.acts.length ≤ 140737488355328) (w : World) (ia : InG a w) (ib : InG b w) :
    Calls Tryd.prog 18 #[.agg (gca a), .agg (gca b)] w fun e w' => e = .returned (.bool (msEq a.u b.u)) ∧ Below w.heap.size w w' := by
  have HIa := Lib.hid ia
  have HIb := Lib.hid ib
  have HLa := Lib.hid hla
  have HWb := Lib.hid hwb
  have HLM := Lib.hid hlm
  obtain ⟨y, hy⟩ : ∃ y, y = msEq a.u b.u := ⟨_, rfl⟩
  rw [← hy]
  rw [msEq_bits] at hy
  have HY := Lib.hid hy
  clear ia ib hla hwb hlm hy
  go_enter Tryd.func18, Tryd.ntmps18
  go_upto_region 1 with fail
  have hT : TwG w w.heap.size (w.heap.size + 1) a b ((w.alloc (.cells (gca a) 33)).alloc (.cells (gca b) 33)) := ⟨(Blk.new w (gca a) 33).old _, Blk.new2 _ _ _ _, below2 _ _ _⟩
  generalize (w.alloc (.cells (gca a) 33)).alloc (.cells (gca b) 33) = W at *
  have HS := Lib.hid hT
  clear hT
  obtain ⟨a0, a1, a2, aM, _⟩ := HS.out.1.cellsG
  obtain ⟨b0, b1, b2, bM, _⟩ := HS.out.2.1.cellsG
  have MA := Lib.hid aM
  have MB := Lib.hid bM
  have HC := Lib.hid (msame_any a.mod b.mod HLM.out W (HIa.out.1.below HS.out.2.2) (HIb.out.1.below HS.out.2.2))
  clear aM bM
  by_cases h0 : a.kind = b.kind
  rotate_left
  · have h0d := eq_false0 h0
    have h0f := Lib.hid h0d
    go_wp2_with fail
    go_ret
    exact ⟨ret_bool (by rw [HY.out, h0f.out]; rfl), HS.out.2.2⟩
  have h0d := eq_true0 h0
  have h0f := Lib.hid h0d
  by_cases h1 : a.txn = b.txn
  rotate_left
  · have h1d := eq_false0 h1
    have h1f := Lib.hid h1d
    go_wp2_with fail
    go_ret
    exact ⟨ret_bool (by rw [HY.out, h0f.out, h1f.out]; rfl), HS.out.2.2⟩
  have h1d := eq_true0 h1
  have h1f := Lib.hid h1d
  by_cases h2 : a.e = b.e
  rotate_left
  · have h2d := eq_false0 h2
    have h2f := Lib.hid h2d
    go_wp2_with fail
    go_ret
    exact ⟨ret_bool (by rw [HY.out, h0f.out, h1f.out, h2f.out]; rfl), HS.out.2.2⟩
  have h2d := eq_true0 h2
  have h2f := Lib.hid h2d
  cases hm : mEq a.mod.u b.mod.u
  · rw [hm] at HC
    have HM := Lib.hid hm
    clear hm
    go_wp2_with (first
      | (refine loadMidG rfl 30 (.tmp 25) rfl w.heap.size 3 rfl (mcl a.mod) _ MA.out Tryd.underlying30 rfl (by rw [mcl_len]; exact infoM) ?_)
      | (refine loadMidG rfl 30 (.tmp 27) rfl (w.heap.size + 1) 3 rfl (mcl b.mod) _ MB.out Tryd.underlying30 rfl (by rw [mcl_len]; exact infoM) ?_)
      | (go_at_call 36; refine HC.out.mono ?_; rintro e V1 ⟨rfl, hw1⟩; refine Hid.out ?_))
    have HS1 := Lib.hid (HS.out.below hw1)
    clear hw1 HC HS
    refine Lib.hid ?_
    go_wp2_with fail
    go_ret
    exact ⟨ret_bool (by rw [HY.out, h0f.out, h1f.out, h2f.out, HM.out]; rfl), HS1.out.2.2⟩
  rw [hm] at HC
  have HM := Lib.hid hm
  clear hm
  go_wp2_with (first
    | (refine loadMidG rfl 30 (.tmp 25) rfl w.heap.size 3 rfl (mcl a.mod) _ MA.out Tryd.underlying30 rfl (by rw [mcl_len]; exact infoM) ?_)
    | (refine loadMidG rfl 30 (.tmp 27) rfl (w.heap.size + 1) 3 rfl (mcl b.mod) _ MB.out Tryd.underlying30 rfl (by rw [mcl_len]; exact infoM) ?_)
    | (go_at_call 36; refine HC.out.mono ?_; rintro e V1 ⟨rfl, hw1⟩; refine Hid.out ?_))
  have HS1 := Lib.hid (HS.out.below hw1)
  clear hw1 HC HS MA MB a0 a1 a2 b0 b1 b2
  obtain ⟨_, _, _, _, a34, aH, a47⟩ := HS1.out.1.cellsG
  obtain ⟨_, _, _, _, b34, bH, b47⟩ := HS1.out.2.1.cellsG
  have MHa := Lib.hid aH
  have MHb := Lib.hid bH
  clear aH bH
  have heq := eqlHH a.head b.head V1
  have hgd := guardHead
  have HR := Lib.hid (same_rules _ _ a.rs b.rs HLa.out HWb.out V1 (HIa.out.2.below HS1.out.2.2) (HIb.out.2.below HS1.out.2.2))
  refine Lib.hid ?_
  by_cases h3 : a.port = b.port
  rotate_left
  · have h3d := eq_false0 h3
    have h3f := Lib.hid h3d
    go_wp2_with fail
    go_ret
    exact ⟨ret_bool (by rw [HY.out, h0f.out, h1f.out, h2f.out, HM.out, h3f.out]; rfl), HS1.out.2.2⟩
  have h3d := eq_true0 h3
  have h3f := Lib.hid h3d
  cases hh : hEq a.head b.head
  · rw [hh] at heq
    have HH := Lib.hid hh
    clear hh
    go_wp2_with (first
      | (refine loadMidG rfl 25 (.tmp 39) rfl w.heap.size 35 rfl (hl a.head) _ MHa.out Tryd.underlying25 rfl infoHead ?_)
      | (refine loadMidG rfl 25 (.tmp 41) rfl (w.heap.size + 1) 35 rfl (hl b.head) _ MHb.out Tryd.underlying25 rfl infoHead ?_))
    go_ret
    exact ⟨ret_bool (by rw [HY.out, h0f.out, h1f.out, h2f.out, HM.out, h3f.out, HH.out]; rfl), HS1.out.2.2⟩
  rw [hh] at heq
  have HH := Lib.hid hh
  clear hh
  generalize sameL (a.rs.map (·.u)) (b.rs.map (·.u)) = yr at *
  go_wp2_with (first
    | (refine loadMidG rfl 25 (.tmp 39) rfl w.heap.size 35 rfl (hl a.head) _ MHa.out Tryd.underlying25 rfl infoHead ?_)
    | (refine loadMidG rfl 25 (.tmp 41) rfl (w.heap.size + 1) 35 rfl (hl b.head) _ MHb.out Tryd.underlying25 rfl infoHead ?_)
    | (go_at_call 37; refine HR.out.mono ?_; rintro e V2 ⟨rfl, hw2⟩))
  go_ret
  exact ⟨ret_bool (by rw [HY.out, h0f.out, h1f.out, h2f.out, HM.out, h3f.out, HH.out]; rfl), (HS1.out.below hw2).2.2⟩
end Go.Proofs.YtndgbgolmpoepaaDoor
