/-
  The walk of Sort of package rule.
-/
import Derived.Test.YthalpnmejompdaaDoorRuleBin
import Derived.Test.YthalpnmejompdaaDoorRuleSrtM
namespace Go.Proofs.YthalpnmejompdaaDoor
open Go.RowKit

/-- the list in its box, the places in memory of their own -/
def SrS (w : World) (v pv : Value) (P : List Nat) (W : World) : Prop := Blk w.heap.size #[v] 33 W ∧ KOwns KI (w.heap.size + 1) pv P W ∧ Below w.heap.size w W
section
variable {w W W' : World} {v pv pv' : Value} {P P' : List Nat}
theorem SrS.below (h : SrS w v pv P W) (hb : Below W.heap.size W W') : SrS w v pv P W' := ⟨h.1.below hb, h.2.1.below hb, h.2.2.trans (hb.mono h.2.2.size)⟩
theorem SrS.grown (h : SrS w v pv P W) (ho : KOwns KI (w.heap.size + 1) pv' P' W') (hg : W.grownBy W' pv.ownBlock) : SrS w v pv' P' W' :=
  ⟨Blk.grown h.1 h.2.1 (by omega) hg, ho, h.2.2.grown hg h.2.2.size fun k e => by have := h.2.1.ge k e; omega⟩
theorem SrS.cell (h : SrS w v pv P W) : W.cell? ⟨w.heap.size, 0, none⟩ = some v := (cell_of_row W w.heap.size 0 _ _ _ h.1).trans rfl
end
theorem zeroI : ((Tryd.prog.info? 3).bind (·.zero)).map (·.cells) = some #[Value.int .i64 0] := by kernel_rfl
theorem fillI (x : Int) : Instr.fill (fun i' => some (i' * 1, 1)) ((Array.range (1 * 1)).map ((#[Value.int .i64 0] : Array Value)[· % (#[Value.int .i64 0] : Array Value).size]!)) [(0, .int .i64 x)] = some #[.int .i64 x] := by kernel_rfl
theorem env_of {w W : World} (ht : Tab w) (hz : 0 < w.heap.size) (hb : Below w.heap.size w W) : Tab W ∧ 0 < W.heap.size := (Env.start ht hz).predK W hb
set_option maxRecDepth 100000 in
set_option maxHeartbeats 2000000 in
theorem rsort_any (v : Value) (l : List Rm) (hlen : l.length ≤ 100000) (hw : WfRL l) (w : World) (hl : RLies v l w) (ht : Tab w) (hz : 0 < w.heap.size) : Calls Tryd.prog 19 #[v] w (TabRet w (tblOf (l.map (·.u)))) := by
  obtain ⟨p, cap, rfl⟩ := hl.1.form
  have HL := Lib.hid hl
  have HW := Lib.hid hw
  have HT := Lib.hid (fun (W : World) (hb : Below w.heap.size w W) => env_of ht hz hb)
  have HS := Lib.hid (show SrS w (.slice p l.length cap) (.slice none 0 0) [] (w.alloc (.cells #[.slice p l.length cap] 33)) from ⟨Blk.new _ _ _, KOwns.nil _ _, below1 _ _⟩)
  have hc0 := HS.out.cell
  clear hl hw ht
  go_enter Tryd.func19, Tryd.ntmps19
  go_wp2_with fail
  clear hc0
  go_loopg [3, 13] l.length (fun k pv i wr => ∃ (r : Nat) (P : List Nat), r + k = l.length ∧ i = .int .i64 r ∧ PlS l r P ∧ SrS w (.slice p l.length cap) pv P wr)
  case atStart => exact ⟨0, [], by omega, rfl, PlS.start l, HS.out⟩
  case round =>
    clear HS
    obtain ⟨r, P, hr, rfl, hp, hs⟩ := hrel
    have HP := Lib.hid hp
    have HS := Lib.hid hs
    clear hp hs
    by_cases hlt : r < l.length
    · have hltI : (r : Int) < (l.length : Int) := by omega
      obtain ⟨x, hx⟩ := lt_some hlt
      have HL1 := Lib.hid (HL.out.below HS.out.2.2)
      obtain ⟨b, o, rfl, hrg⟩ := HL1.out.1.at hx
      have HR := Lib.hid hrg
      have HX := Lib.hid hx
      have HA := Lib.hid ((HL1.out.acts hx).below (below1 wr (.cells (rca x) 29)))
      have HWx := Lib.hid (HW.out.at hx)
      clear hrg hx HL1
      go_upto_region 5 with (first
        | (refine wpList_load_mid rfl 29 _ rfl b (o + r * 32) rfl (rcl x) _ HR.out Tryd.underlying29 rfl infoR ?_)
        | (refine wpList_store_row rfl 29 _ _ rfl wr.heap.size (rca x) rfl rfl 29 _ (heap_alloc_new _ _) (by kernel_rfl) rfl (rca_one _) ?_; rw [World.setRow_alloc_new]))
      have RX := Lib.hid (Blk.new wr (rca x) 29)
      have HS1 := Lib.hid (HS.out.below (below1 wr (.cells (rca x) 29)))
      clear HR HS
      generalize wr.alloc (.cells (rca x) 29) = W at *
      have HC := Lib.hid (rsound_any x HWx.out W HA.out (HT.out W HS1.out.2.2).1 (HT.out W HS1.out.2.2).2)
      clear HA HWx
      cases hsn : sndR x.u
      · rw [hsn] at HC
        have HP1 := Lib.hid (HP.out.skip HX.out hsn)
        clear hsn
        go_wp2_with (first
          | (refine wpList_load_row rfl 29 _ rfl wr.heap.size rfl 29 (rca x) (0, 0) _ RX.out Tryd.underlying29 rfl infoR ?_)
          | (go_at_call 11; refine HC.out.mono ?_; rintro e w2 ⟨rfl, hw2⟩; refine Hid.out ?_))
        have HS2 := Lib.hid (HS1.out.below hw2)
        clear hw2 HC RX HS1
        refine Lib.hid ?_
        go_wp2_with fail
        go_roundg (l.length - (r + 1))
        case measure => omega
        case rel => exact ⟨r + 1, P, by omega, by go_num, HP1.out, HS2.out⟩
      · rw [hsn] at HC
        have HSN := Lib.hid hsn
        clear hsn
        go_wp2_with (first
          | (refine wpList_load_row rfl 29 _ rfl wr.heap.size rfl 29 (rca x) (0, 0) _ RX.out Tryd.underlying29 rfl infoR ?_)
          | (go_at_call 11; refine HC.out.mono ?_; rintro e w2 ⟨rfl, hw2⟩; refine Hid.out ?_))
        have HS2 := Lib.hid (HS1.out.below hw2)
        have RX2 := Lib.hid (RX.out.below hw2)
        clear hw2 HC RX HS1
        have HBS := Lib.hid (bsearch_any _ P x (fun i => rOrd (nthU l i) x.u) #[.pointer (some ⟨w.heap.size, 0, none⟩)] (by have := HP.out.len; omega) w2 (HS2.out.2.1.lies okI)
          (fun W hb j i hj => by
            obtain ⟨y, h1, _⟩ := HP.out.get hj
            have h := sort1_any w.heap.size (.slice (some ⟨b, o, none⟩) l.length cap) l i y x h1 W (HS2.out.1.below hb) ((HL.out.below HS2.out.2.2).below hb).1
            show Calls Tryd.prog 40 #[.int .i64 (i : Int), .agg (rca x), .pointer (some ⟨w.heap.size, 0, none⟩)] W fun e w' => e = .returned (.int .i64 (rOrd (nthU l i) x.u)) ∧ Below W.heap.size W w'
            rw [nthU_at h1]
            exact h)
          (fun i j a b' hij ha hb hlt => HP.out.mono x.u i j a b' hij ha hb hlt))
        refine Lib.hid ?_
        go_wp2_with (first
          | (refine wpList_load_row rfl 29 _ rfl wr.heap.size rfl 29 (rca x) (0, 0) _ RX2.out Tryd.underlying29 rfl infoR ?_)
          | (go_at_call 39; refine HBS.out.mono ?_; rintro e w3 ⟨c, f, rfl, hcl, hc1, hc2, hf, hw3⟩; refine Hid.out ?_))
        have HS3 := Lib.hid (HS2.out.below hw3)
        have HF := Lib.hid (And.intro hcl (And.intro hc1 (And.intro hc2 hf)))
        clear hw3 HBS HS2 RX2 hcl hc1 hc2 hf
        cases f
        · have HP1 := Lib.hid (HP.out.put HX.out HSN.out HF.out.1 HF.out.2.1 HF.out.2.2.1 (fun h => Bool.false_ne_true (HF.out.2.2.2.2 h)))
          have HI := Lib.hid (insert_any (w.heap.size + 1) u3 P c r w3.heap.size HF.out.1 (by have := HP.out.len; omega) (w3.alloc (.cells #[.int .i64 (r : Int)] KI.T)) (HS3.out.2.1.below (below1 _ _)) (by have := HS3.out.1.lt; have := (below1 w3 (.cells #[.int .i64 (r : Int)] KI.T)).size; omega) (Blk.new _ _ _) (fun k hk => by
            have := HS3.out.2.1
            rcases this.2 with ⟨e, _⟩ | ⟨g, cp, cur, e, _, e3, _⟩
            · rw [e] at hk; cases hk
            · rw [e] at hk
              injection hk with hk
              have := (Array.getElem?_eq_some_iff.1 e3).1
              show w3.heap.size ≠ k
              have hk' : g = k := hk
              omega))
          have HS4 := Lib.hid (HS3.out.below (below1 w3 (.cells #[.int .i64 (r : Int)] KI.T)))
          clear HF HS3
          refine Lib.hid ?_
          go_wp2_with (refine kbuild KI okI 1 #[.int .i64 0] zeroI rfl _ rfl [(0, .int .i64 (r : Int))] rfl #[.int .i64 (r : Int)] (by decide) (by decide) (fillI r) ?_)
          generalize w3.alloc (.cells #[.int .i64 (r : Int)] KI.T) = W4 at *
          refine HI.out.mono ?_
          rintro e w5 ⟨v5, rfl, ho5, hg5⟩
          have HS5 := Lib.hid (HS4.out.grown ho5 hg5)
          clear ho5 hg5 HS4 HI
          go_wp2_with fail
          go_roundg (l.length - (r + 1))
          case measure => omega
          case rel => exact ⟨r + 1, _, by omega, by go_num, HP1.out, HS5.out⟩
        · obtain ⟨i, hi, h0⟩ := HF.out.2.2.2.1 rfl
          have HP1 := Lib.hid (HP.out.swap HX.out HSN.out HF.out.2.1 hi h0)
          have hcP : c < P.length := (List.getElem?_eq_some_iff.1 hi).1
          have hcI : (c : Int) < (P.length : Int) := by omega
          have hown := HS3.out.2.1
          rcases hown.2 with ⟨_, e⟩ | ⟨g, cp, cur, rfl, _⟩
          · exfalso; omega
          have hA := KAt.of okI hown
          have hth : w3.there g c 1 := by
            have h := hA.1.there (i := c) (by have := hA.1.1; omega)
            rwa [show c * KI.n = c from Nat.mul_one c] at h
          have hA2 := KAt.owns okI (KAt.set okI hA.1 hcP r) hA.2
          rw [List.length_set, show c * KI.n = c from Nat.mul_one c] at hA2
          have HS4 := Lib.hid (HS3.out.grown (pv' := .slice (some ⟨g, 0, none⟩) P.length cp) (W' := w3.setCell ⟨g, c, none⟩ (.int .i64 (r : Int))) hA2 (grown_stM [.int .i64 (r : Int)] c w3))
          have HTH := Lib.hid hth
          clear hi h0 HF hown hA hA2 hth HS3
          refine Lib.hid ?_
          go_wp2_with (refine storeCell rfl 3 _ _ rfl g c (.int .i64 (r : Int)) rfl rfl rfl HTH.out infoI ?_; refine Hid.out ?_)
          generalize w3.setCell ⟨g, c, none⟩ (.int .i64 (r : Int)) = W4 at *
          clear HTH
          refine Lib.hid ?_
          go_wp2_with fail
          go_roundg (l.length - (r + 1))
          case measure => omega
          case rel => exact ⟨r + 1, _, by omega, by go_num, HP1.out, HS4.out⟩
    · have hltI : ¬ (r : Int) < (l.length : Int) := by omega
      obtain rfl : r = l.length := by omega
      generalize wr = W0 at *
      have HI := Lib.hid (show P.map (nthU l) = tblOf (l.map (·.u)) by have := HP.out.is; rwa [List.take_length] at this)
      have hPl : P.length ≤ 100000 := by have := HP.out.len; omega
      obtain ⟨pp, pc, rfl⟩ := HS.out.2.1.form
      go_upto_region 12 with (refine kmake KR okR rfl _ _ rfl P.length rfl rfl (by omega) (fun w1 ha hb hlt => ?_))
      have HC := Lib.hid (show CpS W0.heap.size W0 W0.heap.size P.length [] w1 from ⟨ha, fun r hr => (by cases hr), hb, Nat.le_refl _⟩)
      clear ha hb hlt
      go_wp2_with fail
      go_loopg [44] P.length (fun k i wr => ∃ (r : Nat) (L : List Rm), r + k = P.length ∧ L.length = r ∧ i = .int .i64 r ∧ L.map (·.u) = (P.take r).map (nthU l) ∧ CpS W0.heap.size W0 W0.heap.size P.length L wr)
      case atStart => exact ⟨0, [], by omega, rfl, rfl, rfl, HC.out⟩
      case round =>
        obtain ⟨r, L, hr, hL, rfl, hu, hs⟩ := hrel
        have HU := Lib.hid hu
        have HQ := Lib.hid hs
        have HLL := Lib.hid hL
        clear hu hs HC hL
        by_cases hlt2 : r < P.length
        · have hlt2I : (r : Int) < (P.length : Int) := by omega
          obtain ⟨i, hi⟩ := lt_some hlt2
          obtain ⟨x, hx, _⟩ := HP.out.get hi
          have hil : i < l.length := (List.getElem?_eq_some_iff.1 hx).1
          have hilI : (i : Int) < (l.length : Int) := by omega
          have HK := Lib.hid ((HS.out.2.1.lies okI).below okI HQ.out.2.2.1)
          obtain ⟨b1, o1, rfl, _⟩ := HK.out.at hi
          have HK1 := HK.out.cellI hi
          have HBx := Lib.hid (HS.out.1.below HQ.out.2.2.1)
          have hcb : wr.cell? ⟨w.heap.size, 0, none⟩ = some (.slice p l.length cap) := (cell_of_row wr w.heap.size 0 _ _ _ HBx.out).trans rfl
          have HL1 := Lib.hid ((HL.out.below HS.out.2.2).below HQ.out.2.2.1)
          obtain ⟨b, o, rfl, hrg⟩ := HL1.out.1.at hx
          have HR := Lib.hid hrg
          have HX := Lib.hid (And.intro hi hx)
          have HC := Lib.hid (rclone_any x (HW.out.at hx).room wr (HL1.out.acts hx))
          clear hrg hx hi HL1 HK
          go_wp2_with (first
            | (refine wpList_load_mid rfl 29 _ rfl b (o + i * 32) rfl (rcl x) _ HR.out Tryd.underlying29 rfl infoR ?_)
            | (go_at_call 42; refine HC.out.mono ?_; rintro e w2 ⟨y, rfl, hy, ho, hw2⟩; refine Hid.out ?_))
          have HQ2 := Lib.hid (HQ.out.below hw2)
          have HO := Lib.hid (ho.mono (show W0.heap.size + 1 ≤ wr.heap.size from HQ.out.lt))
          have HY := Lib.hid hy
          clear ho hw2 hy HC HQ HR HK1 hcb HBx
          refine Lib.hid ?_
          go_wp2_with (refine kstore KR okR infoR rfl _ _ rfl W0.heap.size r P.length L y rfl rfl HQ2.out.1 hlt2 ?_; refine Hid.out ?_)
          have HQ3 := Lib.hid (HQ2.out.push HO.out HLL.out.symm hlt2)
          clear HQ2 HO
          generalize w2.setCells W0.heap.size (r * 32) (rcl y) = W3 at *
          refine Lib.hid ?_
          go_wp2_with fail
          go_roundg (P.length - (r + 1))
          case measure => omega
          case rel =>
            refine ⟨r + 1, L ++ [y], by omega, by simp [HLL.out], by go_num, ?_, HQ3.out⟩
            rw [List.take_add_one, HX.out.1, List.map_append, List.map_append, HU.out]
            simp [HY.out, nthU_at HX.out.2]
        · have hlt2I : ¬ (r : Int) < (P.length : Int) := by omega
          have HT2 := Lib.hid (show r = P.length by omega)
          go_wp2_with fail
          go_ret
          have e : L.length = P.length := HLL.out.trans HT2.out
          refine ⟨W0.heap.size, L, by rw [e]; rfl, ?_, ?_⟩
          · rw [HU.out, HT2.out, List.take_length, HI.out]
          · rw [e]
            have hq := HQ.out
            have hb := HS.out.2.2
            exact ⟨hq.1, hq.2.1, hb.trans (hq.2.2.1.mono hb.size), hb.size⟩
end Go.Proofs.YthalpnmejompdaaDoor
