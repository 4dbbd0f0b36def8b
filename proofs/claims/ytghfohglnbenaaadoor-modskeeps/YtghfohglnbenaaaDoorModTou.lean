/-
  The walks of Touched and modify of package mods.
-/
import Derived.Test.YtghfohglnbenaaaDoorModTch
import Derived.Test.YtghfohglnbenaaaDoorPackSort
import Derived.Test.YtghfohglnbenaaaDoorPackRule
namespace Go.Proofs.YtghfohglnbenaaaDoor
set_option maxRecDepth 20000
open Go.RowKit

/-- does the element at a place meet a condition? -/
def hitAt (q : Rm → Bool) (l : List Rm) (i : Nat) : Bool := match l[i]? with
  | some x => q x
  | none => false
/-- the places of the elements that meet a condition -/
def hits (q : Rm → Bool) (l : List Rm) (r : Nat) : List Nat := (List.range r).filter (hitAt q l)
section
variable {q : Rm → Bool} {l : List Rm} {r : Nat} {x : Rm}
theorem hits_zero : hits q l 0 = [] := rfl
theorem hits_yes (hx : l[r]? = some x) (h : q x = true) : hits q l (r + 1) = hits q l r ++ [r] := by
  unfold hits
  rw [List.range_succ, List.filter_append, show [r].filter (hitAt q l) = [r] by simp [hitAt, hx, h]]
theorem hits_no (hx : l[r]? = some x) (h : q x = false) : hits q l (r + 1) = hits q l r := by
  unfold hits
  rw [List.range_succ, List.filter_append, show [r].filter (hitAt q l) = [] by simp [hitAt, hx, h], List.append_nil]
theorem hits_len : (hits q l r).length ≤ r := by
  unfold hits
  have := List.length_filter_le (hitAt q l) (List.range r)
  rwa [List.length_range] at this
theorem hits_lt {i : Nat} (h : i ∈ hits q l r) : i < r := by
  unfold hits at h
  simpa using (List.mem_filter.1 h).1
theorem hits_mem {i : Nat} (hi : i < r) : i ∈ hits q l r ↔ hitAt q l i = true := by
  unfold hits
  rw [List.mem_filter, List.mem_range]
  exact ⟨fun h => h.2, fun h => ⟨hi, h⟩⟩
theorem hits_count (q : Rm → Bool) : ∀ l : List Rm, (hits q l l.length).length = (l.filter q).length := by
  intro l
  have key : ∀ r, r ≤ l.length → (hits q l r).length = ((l.take r).filter q).length := by
    intro r
    induction r with
    | zero => intro _; rfl
    | succ r ih =>
      intro hr
      obtain ⟨x, hx⟩ := lt_some (l := l) (i := r) (by omega)
      rw [List.take_add_one, hx]
      cases h : q x
      · rw [hits_no hx h, ih (by omega)]; simp [h]
      · rw [hits_yes hx h, List.length_append, ih (by omega)]; simp [h]
  rw [key _ (Nat.le_refl _), List.take_length]
end
/-- what Touched gives -/
def TouRet (q : Rm → Bool) (l : List Rm) (w : World) (e : Ending) (w' : World) : Prop := ∃ v, e = .returned v ∧ KOwns KI w.heap.size v (hits q l l.length) w' ∧ Below w.heap.size w w'
set_option maxHeartbeats 2000000 in
theorem touched_any (v : Value) (l : List Rm) (hlen : l.length ≤ 100000) (hwl : WfRL l) (m : Mm) (hw : WfM m.u) (w : World) (hl : KLies KR v l w) (ha : InM m w) (ht : Tab w) (hz : 0 < w.heap.size) :
    Calls Tryd.prog 20 #[v, .agg (mca m)] w (TouRet (tcS m) l w) := by
  obtain ⟨p, cap, rfl⟩ := hl.form
  have R0 := Lib.hid (Blk.new w (mca m) 30)
  have HE := Lib.hid ((Env.start ht hz).alloc (.cells (mca m) 30))
  have HF := Lib.hid (tby_any m hw _ (ha.below (below1 w (.cells (mca m) 30))) HE.out.tab HE.out.lt)
  have HL := Lib.hid hl
  have HWL := Lib.hid hwl
  clear ht ha hw hl hwl
  go_enter Tryd.func20, Tryd.ntmps20
  go_upto_region 2 with (first
    | (refine wpList_load_row rfl 30 _ rfl w.heap.size rfl 30 (mca m) (0, 0) _ R0.out Tryd.underlying30 rfl infoM ?_)
    | (go_at_call 31; refine HF.out.mono ?_; rintro e w1 ⟨g, cb, rfl, eg, hpa, hbm, hw1⟩))
  have hp := hpa.pred hbm (HE.out.below hw1).tab (HE.out.below hw1).lt
  have HB1 := Lib.hid (HE.out.below hw1).kept
  have HL1 := Lib.hid (HL.out.below okR HB1.out)
  have HP := Lib.hid hp
  clear hp hpa hbm hw1 HE HF R0 HL
  generalize tcS m = q at *
  go_wp2_with fail
  go_loopg [6, 13] l.length (fun k s6 s13 wr => ∃ r : Nat, r + k = l.length ∧ s13 = .int .i64 r ∧ KOwns KI w1.heap.size s6 (hits q l r) wr ∧ Below w1.heap.size w1 wr)
  case atStart => exact ⟨0, by omega, rfl, KOwns.nil _ _, Below.refl _ _⟩
  case round =>
    obtain ⟨r, hr, rfl, ho, hb⟩ := hrel
    have HO := Lib.hid ho
    have HB := Lib.hid hb
    clear ho hb
    by_cases hlt : r < l.length
    · have hltI : (r : Int) < (l.length : Int) := by omega
      obtain ⟨x, hx⟩ := lt_some hlt
      obtain ⟨b, o, rfl, hrg⟩ := (HL1.out.below okR HB.out).at hx
      have HR := Lib.hid hrg
      have HX := Lib.hid hx
      have HWx := Lib.hid (HWL.out.at hx)
      clear hrg hx
      go_upto_region 6 with (first
        | (refine wpList_load_mid rfl 44 _ rfl b (o + r * 32) rfl (rcl x) _ HR.out Tryd.underlying44 rfl infoR ?_)
        | (refine wpList_store_row rfl 44 _ _ rfl wr.heap.size (rca x) rfl rfl 44 _ (heap_alloc_new _ _) (by kernel_rfl) rfl (rca_one _) ?_; rw [World.setRow_alloc_new]))
      have RX := Lib.hid (Blk.new wr (rca x) 44)
      have HO1 := Lib.hid (HO.out.below (below1 wr (.cells (rca x) 44)))
      have HB2 := Lib.hid (HB.out.alloc HB.out.size (.cells (rca x) 44))
      clear HR HO HB
      generalize wr.alloc (.cells (rca x) 44) = W at *
      have HC := Lib.hid (show Calls Tryd.prog g (#[.agg (rca x)] ++ cb) W _ from HP.out W HB2.out x HWx.out)
      cases hq : q x
      · rw [hq] at HC
        have HH := Lib.hid (hits_no HX.out hq)
        clear hq
        go_wp2_with (first
          | (refine wpList_load_row rfl 44 _ rfl wr.heap.size rfl 44 (rca x) (0, 0) _ RX.out Tryd.underlying44 rfl infoR ?_)
          | (go_at_fn g; refine HC.out.mono ?_; rintro e w2 ⟨rfl, hw2⟩))
        have HO2 := Lib.hid (HO1.out.below hw2)
        have HB3 := Lib.hid (HB2.out.trans (hw2.mono HB2.out.size))
        clear hw2 HC RX HO1 HB2
        go_roundg (l.length - (r + 1))
        case measure => omega
        case rel =>
          refine ⟨r + 1, by omega, by go_num, ?_, HB3.out⟩
          rw [HH.out]
          exact HO2.out
      · rw [hq] at HC
        have HH := Lib.hid (hits_yes HX.out hq)
        clear hq
        go_upto_region 7 with (first
          | (refine wpList_load_row rfl 44 _ rfl wr.heap.size rfl 44 (rca x) (0, 0) _ RX.out Tryd.underlying44 rfl infoR ?_)
          | (go_at_fn g; refine HC.out.mono ?_; rintro e w2 ⟨rfl, hw2⟩))
        have HO2 := Lib.hid ((HO1.out.below hw2).below (below1 w2 (.cells #[.int .i64 (r : Int)] KI.T)))
        have HB3 := Lib.hid (HB2.out.trans (hw2.mono HB2.out.size))
        have HB4 := Lib.hid (HB3.out.alloc HB3.out.size (.cells #[.int .i64 (r : Int)] KI.T))
        have HK := Lib.hid (Blk.klies (K := KI) (l := [r]) (Blk.new w2 #[.int .i64 (r : Int)] KI.T) okI rfl)
        have hle : (hits q l r).length ≤ r := hits_len
        have HLE := Lib.hid (show (hits q l r).length + [r].length ≤ 1000000 by simp; omega)
        clear hw2 HC RX HO1 HB2 hle
        go_wp2_with (first
          | (refine kbuild KI okI 1 #[.int .i64 0] zeroI rfl _ rfl [(0, .int .i64 (r : Int))] rfl #[.int .i64 (r : Int)] (by decide) (by decide) (fillI r) ?_)
          | (refine kappend KI okI rfl _ _ rfl w1.heap.size _ (hits q l r) [r] rfl HO2.out _ rfl HK.out HB4.out.size HLE.out (fun v' w' ho hg => ?_); refine Hid.out ?_))
        have HO5 := Lib.hid ho
        have HB5 := Lib.hid (kbelowOwn HB4.out HO2.out (Nat.le_refl _) hg)
        clear ho hg HO2 HB3 HB4 HK
        refine Lib.hid ?_
        go_wp2_with fail
        go_roundg (l.length - (r + 1))
        case measure => omega
        case rel =>
          refine ⟨r + 1, by omega, by go_num, ?_, HB5.out⟩
          rw [HH.out]
          exact HO5.out
    · have hltI : ¬ (r : Int) < (l.length : Int) := by omega
      have hr' : r = l.length := by omega
      have HT := Lib.hid hr'
      go_wp2_with fail
      go_ret
      refine ⟨_, rfl, ?_, HB1.out.trans (HB.out.mono HB1.out.size)⟩
      rw [← HT.out]
      exact HO.out.mono HB1.out.size
end Go.Proofs.YtghfohglnbenaaaDoor
