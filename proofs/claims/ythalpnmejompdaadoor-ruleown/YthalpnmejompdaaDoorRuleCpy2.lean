/-
  The walk of Copy of package rule.
-/
import Derived.Test.YthalpnmejompdaaDoorRuleCpy
namespace Go.Proofs.YthalpnmejompdaaDoor
open Go.RowKit

theorem below_stM {B g o : Nat} {w W : World} (hb : Below B w W) (hs : B ≤ W.heap.size) (hB : B ≤ g) (vs : List Value) : Below B w (W.setCells g o vs) :=
  hb.grown (grown_stM vs o W) hs fun k e => by injection e with e; omega
/-- a table while it is written, at the head of a block, each rule with actions of its own behind it -/
def CpS (B : Nat) (w : World) (g n : Nat) (L : List Rm) (W : World) : Prop := KAt KR g n L W ∧ (∀ r ∈ L, OwnA (g + 1) r W) ∧ Below B w W ∧ B ≤ g
section
variable {B : Nat} {w W W' : World} {g n : Nat} {L : List Rm} {r : Rm}
theorem CpS.lt (h : CpS B w g n L W) : g < W.heap.size := h.1.lt
theorem CpS.below (h : CpS B w g n L W) (hb : Below W.heap.size W W') : CpS B w g n L W' := ⟨h.1.below hb, fun r hr => (h.2.1 r hr).below hb, h.2.2.1.trans (hb.mono (by have := h.lt; have := h.2.2.2; omega)), h.2.2.2⟩
theorem CpS.push (h : CpS B w g n L W) (hr : OwnA (g + 1) r W) {i : Nat} (he : i = L.length) (hi : i < n) : CpS B w g n (L ++ [r]) (W.setCells g (i * 32) (rcl r)) := by
  have ho : ∀ x : Rm, OwnA (g + 1) x W → OwnA (g + 1) x (W.setCells g (i * 32) (rcl r)) := fun x hx => KOwns.other hx fun k hk _ => heap_stM_other (by omega) _ _ _
  refine ⟨KAt.push okR h.1 he hi r, fun x hx => ?_, below_stM h.2.2.1 (by have := h.lt; have := h.2.2.2; omega) h.2.2.2 _, h.2.2.2⟩
  rcases List.mem_append.1 hx with hx | hx
  · exact ho x (h.2.1 x hx)
  · simp only [List.mem_cons, List.not_mem_nil, or_false] at hx
    subst hx
    exact ho _ hr
end
/-- what a call that makes a table of its own leaves -/
def TabRet (w : World) (us : List Ru) (e : Ending) (w' : World) : Prop := ∃ g L, e = .returned (.slice (some ⟨g, 0, none⟩) L.length L.length) ∧ L.map (·.u) = us ∧ CpS w.heap.size w g L.length L w'
def zRu : Ru := ⟨fun _ => 0, 0, [], 0, 0, 0, 0, 0, 0⟩
/-- the rule at a place -/
def nthU (l : List Rm) (i : Nat) : Ru := match l[i]? with
  | some x => x.u
  | none => zRu
theorem nthU_at {l : List Rm} {i : Nat} {x : Rm} (h : l[i]? = some x) : nthU l i = x.u := by unfold nthU; rw [h]
theorem take_map_succ {l : List Rm} {r : Nat} {x : Rm} (h : l[r]? = some x) : (l.take (r + 1)).map (·.u) = (l.take r).map (·.u) ++ [x.u] := by
  rw [List.take_add_one, h]; simp
set_option maxHeartbeats 1000000 in
theorem copy_any (v : Value) (l : List Rm) (hlen : l.length ≤ 100000) (hw : WfRL l) (w : World) (hl : RLies v l w) : Calls Tryd.prog 20 #[v] w (TabRet w (l.map (·.u))) := by
  obtain ⟨p, cap, rfl⟩ := hl.1.form
  have HL := Lib.hid hl
  have HW := Lib.hid hw
  clear hl hw
  go_enter Tryd.func20, Tryd.ntmps20
  go_upto_region 2 with (refine kmake KR okR rfl _ _ rfl l.length rfl rfl (by omega) (fun w1 ha hb hlt => ?_))
  have HC := Lib.hid (show CpS w.heap.size w w.heap.size l.length [] w1 from ⟨ha, fun r hr => (by cases hr), hb, Nat.le_refl _⟩)
  clear ha hb hlt
  go_wp2_with fail
  go_loopg [11] l.length (fun k i wr => ∃ (r : Nat) (L : List Rm), r + k = l.length ∧ L.length = r ∧ i = .int .i64 r ∧ L.map (·.u) = (l.take r).map (·.u) ∧ CpS w.heap.size w w.heap.size l.length L wr)
  case atStart => exact ⟨0, [], by omega, rfl, rfl, rfl, HC.out⟩
  case round =>
    obtain ⟨r, L, hr, hL, rfl, hu, hs⟩ := hrel
    have HU := Lib.hid hu
    have HS := Lib.hid hs
    have HLL := Lib.hid hL
    clear hu hs HC hL
    by_cases hlt : r < l.length
    · have hltI : (r : Int) < (l.length : Int) := by omega
      obtain ⟨x, hx⟩ := lt_some hlt
      have HL1 := Lib.hid (HL.out.below HS.out.2.2.1)
      obtain ⟨b, o, rfl, hrg⟩ := HL1.out.1.at hx
      have HR := Lib.hid hrg
      have HX := Lib.hid hx
      have HA := Lib.hid ((HL1.out.acts hx).below (below1 wr (.cells (rca x) 29)))
      have HWx := Lib.hid (HW.out.at hx)
      clear hrg hx HL1
      go_upto_region 5 with (first
        | (refine wpList_load_mid rfl 29 _ rfl b (o + r * 32) rfl (rcl x) _ HR.out Tryd.underlying29 rfl infoR ?_)
        | (refine wpList_store_row rfl 29 _ _ rfl wr.heap.size (rca x) rfl rfl 29 _ (heap_alloc_new _ _) (by kernel_rfl) rfl (rca_one _) ?_; rw [World.setRow_alloc_new]))
      have RX := Lib.hid (Blk.new wr (rca x) 29)
      have HS1 := Lib.hid (HS.out.below (below1 wr (.cells (rca x) 29)))
      clear HR HS
      generalize wr.alloc (.cells (rca x) 29) = W at *
      have HC := Lib.hid (rclone_any x HWx.out.room W HA.out)
      clear HA HWx
      go_wp2_with (first
        | (refine wpList_load_row rfl 29 _ rfl wr.heap.size rfl 29 (rca x) (0, 0) _ RX.out Tryd.underlying29 rfl infoR ?_)
        | (go_at_call 42; refine HC.out.mono ?_; rintro e w2 ⟨y, rfl, hy, ho, hw2⟩; refine Hid.out ?_))
      have HS2 := Lib.hid (HS1.out.below hw2)
      have HO := Lib.hid (ho.mono (show w.heap.size + 1 ≤ W.heap.size from HS1.out.lt))
      have HY := Lib.hid hy
      clear ho hw2 hy HC RX HS1
      refine Lib.hid ?_
      go_wp2_with (refine kstore KR okR infoR rfl _ _ rfl w.heap.size r l.length L y rfl rfl HS2.out.1 hlt ?_; refine Hid.out ?_)
      have HS3 := Lib.hid (HS2.out.push HO.out HLL.out.symm hlt)
      clear HS2 HO
      generalize w2.setCells w.heap.size (r * 32) (rcl y) = W3 at *
      refine Lib.hid ?_
      go_wp2_with fail
      go_roundg (l.length - (r + 1))
      case measure => omega
      case rel =>
        refine ⟨r + 1, L ++ [y], by omega, by simp [HLL.out], by go_num, ?_, HS3.out⟩
        rw [take_map_succ HX.out, List.map_append, HU.out, ← HY.out]
        rfl
    · have hltI : ¬ (r : Int) < (l.length : Int) := by omega
      have hr' : r = l.length := by omega
      have HT := Lib.hid hr'
      go_wp2_with fail
      go_ret
      have e : L.length = l.length := HLL.out.trans HT.out
      refine ⟨w.heap.size, L, by rw [e]; rfl, ?_, ?_⟩
      · rw [HU.out, HT.out, List.take_length]
      · rw [e]
        exact HS.out
end Go.Proofs.YthalpnmejompdaaDoor
