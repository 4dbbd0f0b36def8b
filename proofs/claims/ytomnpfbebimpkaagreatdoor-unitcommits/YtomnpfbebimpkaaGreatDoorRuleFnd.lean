/-
  The walks of Find, the program's and the reference's.
-/
import Derived.Test.YtomnpfbebimpkaaGreatDoorPackRule
import Derived.Test.YtomnpfbebimpkaaGreatDoorPackRef
namespace Go.Proofs.YtomnpfbebimpkaaGreatDoor
set_option maxRecDepth 20000
open Go.RowKit

/-- the first rule that has a header -/
def fnd (h : Nat → Int) (l : List Rm) : Option Nat := l.findIdx? fun x => hasB x.u.m h
theorem fnd_hit {h : Nat → Int} {l : List Rm} {r : Nat} {x : Rm} (hx : l[r]? = some x) (h1 : hasB x.u.m h = true) (h2 : ∀ (j : Nat) y, j < r → l[j]? = some y → hasB y.u.m h = false) : fnd h l = some r := by
  obtain ⟨hlt, e⟩ := List.getElem?_eq_some_iff.1 hx
  unfold fnd
  rw [List.findIdx?_eq_some_iff_getElem]
  refine ⟨hlt, by rw [e]; exact h1, fun j hj => ?_⟩
  have hj' : j < l.length := by omega
  simpa using h2 j _ hj (List.getElem?_eq_getElem hj')
theorem fnd_none {h : Nat → Int} {l : List Rm} (h2 : ∀ (j : Nat) y, l[j]? = some y → hasB y.u.m h = false) : fnd h l = none := by
  unfold fnd
  rw [List.findIdx?_eq_none_iff]
  intro x hx
  obtain ⟨j, hj, rfl⟩ := List.mem_iff_getElem.1 hx
  exact h2 j _ (List.getElem?_eq_getElem hj)
def fndV (h : Nat → Int) (l : List Rm) : Value := .tuple #[.int .i64 (((fnd h l).getD 0 : Nat) : Int), .bool (fnd h l).isSome]
theorem fndV_some {h : Nat → Int} {l : List Rm} {r : Nat} (e : fnd h l = some r) : Ending.returned (.tuple #[.int .i64 (r : Int), .bool true]) = .returned (fndV h l) := by unfold fndV; rw [e]; rfl
theorem fndV_none {h : Nat → Int} {l : List Rm} (e : fnd h l = none) : Ending.returned (.tuple #[.int .i64 0, .bool false]) = .returned (fndV h l) := by unfold fndV; rw [e]; rfl
/-- the rules, the header -/
def FdS (w0 : World) (v : Value) (l : List Rm) (h : Nat → Int) (W : World) : Prop := KLies KR v l W ∧ Blk w0.heap.size (hc h) 35 W ∧ Below w0.heap.size w0 W
theorem FdS.below {w0 : World} {v : Value} {l : List Rm} {h : Nat → Int} {W W' : World} (hb : Below W.heap.size W W') (s : FdS w0 v l h W) : FdS w0 v l h W' := ⟨s.1.below okR hb, s.2.1.below hb, s.2.2.trans (hb.mono s.2.2.size)⟩
set_option maxRecDepth 100000 in
set_option maxHeartbeats 1000000 in
theorem find_any (v : Value) (l : List Rm) (h : Nat → Int) (hlen : l.length ≤ 100000) (hw : WfRL l) (hh : Wf h) (w : World) (hl : RLies v l w) (ht : Tab w) (hz : 0 < w.heap.size) :
    Calls Tryz.prog 44 #[v, .agg (hc h)] w fun e w' => e = .returned (fndV h l) ∧ Below w.heap.size w w' := by
  obtain ⟨p, cap, rfl⟩ := hl.1.form
  have HS := Lib.hid (show FdS w (.slice p l.length cap) l h (w.alloc (.cells (hc h) 35)) from ⟨hl.1.below okR (below1 _ _), Blk.new _ _ _, below1 _ _⟩)
  have HW := Lib.hid hw
  have HT := Lib.hid (fun (W : World) (hb : Below w.heap.size w W) => (Env.start ht hz).predK W hb)
  have HH := Lib.hid hh
  clear hl hw ht hh
  go_enter Tryz.func44, Tryz.ntmps44
  go_wp2_with fail
  go_loopg [10] l.length (fun k i wr => ∃ r : Nat, r + k = l.length ∧ i = .int .i64 r ∧ (∀ (j : Nat) y, j < r → l[j]? = some y → hasB y.u.m h = false) ∧ FdS w (.slice p l.length cap) l h wr)
  case atStart => exact ⟨0, by omega, rfl, fun j _ hj => absurd hj (Nat.not_lt_zero _), HS.out⟩
  case round =>
    clear HS
    obtain ⟨r, hr, rfl, hq, hs⟩ := hrel
    have HQ := Lib.hid hq
    have HS := Lib.hid hs
    clear hq hs
    by_cases hlt : r < l.length
    · have hltI : (r : Int) < (l.length : Int) := by omega
      obtain ⟨x, hx⟩ := lt_some hlt
      obtain ⟨b, o, rfl, hrg⟩ := HS.out.1.at hx
      have HR := Lib.hid hrg
      have HX := Lib.hid hx
      clear hrg hx
      go_upto_region 4 with (first
        | (refine wpList_load_mid rfl 88 _ rfl b (o + r * 32) rfl (rcl x) _ HR.out Tryz.underlying88 rfl infoR ?_)
        | (refine wpList_store_row rfl 88 _ _ rfl wr.heap.size (rca x) rfl rfl 88 _ (heap_alloc_new _ _) (by kernel_rfl) rfl (rca_one _) ?_; rw [World.setRow_alloc_new]))
      have RX := Lib.hid (Blk.new wr (rca x) 88).cellsR.1
      have HS1 := Lib.hid (FdS.below (below1 wr (.cells (rca x) 88)) HS.out)
      clear HR HS
      generalize wr.alloc (.cells (rca x) 88) = W at *
      have HC := Lib.hid (chas_any x.u.m h (HW.out.at HX.out).m0 (fun j => (HH.out j).1) W (HT.out W HS1.out.2.2).1 (HT.out W HS1.out.2.2).2)
      have RH := Lib.hid HS1.out.2.1
      cases hsn : hasB x.u.m h
      · rw [hsn] at HC
        have HN := Lib.hid hsn
        clear hsn
        go_wp2_with (first
          | (refine wpList_load_mid rfl 37 _ rfl wr.heap.size 0 rfl (cl x.u.m) _ RX.out Tryz.underlying37 rfl infoCube ?_)
          | (refine wpList_load_row rfl 35 _ rfl w.heap.size rfl 35 (hc h) (0, 0) _ RH.out Tryz.underlying35 rfl (by kernel_rfl) ?_)
          | (go_at_call 78; refine HC.out.mono ?_; rintro e w2 ⟨rfl, hw2⟩; refine Hid.out ?_))
        have HS2 := Lib.hid (FdS.below hw2 HS1.out)
        clear hw2 HC RX RH HS1
        refine Lib.hid ?_
        go_wp2_with fail
        go_roundg (l.length - (r + 1))
        case measure => omega
        case rel =>
          refine ⟨r + 1, by omega, by go_num, fun j y hj hy => ?_, HS2.out⟩
          by_cases e : j = r
          · subst e
            rw [HX.out] at hy
            rw [← Option.some.inj hy]; exact HN.out
          · exact HQ.out j y (by omega) hy
      · rw [hsn] at HC
        have HN := Lib.hid (fnd_hit HX.out hsn HQ.out)
        clear hsn
        go_wp2_with (first
          | (refine wpList_load_mid rfl 37 _ rfl wr.heap.size 0 rfl (cl x.u.m) _ RX.out Tryz.underlying37 rfl infoCube ?_)
          | (refine wpList_load_row rfl 35 _ rfl w.heap.size rfl 35 (hc h) (0, 0) _ RH.out Tryz.underlying35 rfl (by kernel_rfl) ?_)
          | (go_at_call 78; refine HC.out.mono ?_; rintro e w2 ⟨rfl, hw2⟩; refine Hid.out ?_))
        have HS2 := Lib.hid (FdS.below hw2 HS1.out)
        clear hw2 HC RX RH HS1
        refine Lib.hid ?_
        go_wp2_with fail
        go_ret2
        exact ⟨fndV_some HN.out, HS2.out.2.2⟩
    · have hltI : ¬ (r : Int) < (l.length : Int) := by omega
      have HN := Lib.hid (fnd_none (h := h) (l := l) fun j y hj => HQ.out j y (by have := (List.getElem?_eq_some_iff.1 hj).1; omega) hj)
      go_wp2_with fail
      go_ret2
      exact ⟨fndV_none HN.out, HS.out.2.2⟩
end Go.Proofs.YtomnpfbebimpkaaGreatDoor
