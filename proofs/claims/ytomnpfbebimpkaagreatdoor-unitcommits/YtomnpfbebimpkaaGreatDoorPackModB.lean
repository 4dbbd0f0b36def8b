/- Several of my texts as one: ModTou, ModMdf, ModCat, ModDel, ModAdd, ModAddW, ModApp. -/
import Derived.Test.YtomnpfbebimpkaaGreatDoorPackMod
import Derived.Test.YtomnpfbebimpkaaGreatDoorPackSort
import Derived.Test.YtomnpfbebimpkaaGreatDoorPackRule
import Derived.Lib.AppendZeros
/-
  The walks of Touched and modify of package mods.
-/
namespace Go.Proofs.YtomnpfbebimpkaaGreatDoor
set_option maxRecDepth 20000
open Go.RowKit

/-- does the element at a place meet a condition? -/
def hitAt (q : Rm → Bool) (l : List Rm) (i : Nat) : Bool := match l[i]? with
  | some x => q x
  | none => false
/-- the places of the elements that meet a condition -/
def hits (q : Rm → Bool) (l : List Rm) (r : Nat) : List Nat := (List.range r).filter (hitAt q l)
section
variable {q : Rm → Bool} {l : List Rm} {r : Nat} {x : Rm}
theorem hits_yes (hx : l[r]? = some x) (h : q x = true) : hits q l (r + 1) = hits q l r ++ [r] := by
  unfold hits
  rw [List.range_succ, List.filter_append, show [r].filter (hitAt q l) = [r] by simp [hitAt, hx, h]]
theorem hits_no (hx : l[r]? = some x) (h : q x = false) : hits q l (r + 1) = hits q l r := by
  unfold hits
  rw [List.range_succ, List.filter_append, show [r].filter (hitAt q l) = [] by simp [hitAt, hx, h], List.append_nil]
theorem hits_len : (hits q l r).length ≤ r := by
  unfold hits
  have := List.length_filter_le (hitAt q l) (List.range r)
  rwa [List.length_range] at this
theorem hits_lt {i : Nat} (h : i ∈ hits q l r) : i < r := by
  unfold hits at h
  simpa using (List.mem_filter.1 h).1
theorem hits_mem {i : Nat} (hi : i < r) : i ∈ hits q l r ↔ hitAt q l i = true := by
  unfold hits
  rw [List.mem_filter, List.mem_range]
  exact ⟨fun h => h.2, fun h => ⟨hi, h⟩⟩
end
/-- what Touched gives -/
def TouRet (q : Rm → Bool) (l : List Rm) (w : World) (e : Ending) (w' : World) : Prop := ∃ v, e = .returned v ∧ KOwns KI w.heap.size v (hits q l l.length) w' ∧ Below w.heap.size w w'
set_option maxHeartbeats 2000000 in
theorem touched_any (v : Value) (l : List Rm) (hlen : l.length ≤ 100000) (hwl : WfRL l) (m : Mm) (hw : WfM m.u) (w : World) (hl : KLies KR v l w) (ha : InM m w) (ht : Tab w) (hz : 0 < w.heap.size) :
    Calls Tryz.prog 141 #[v, .agg (mca m)] w (TouRet (tcS m) l w) := by
  obtain ⟨p, cap, rfl⟩ := hl.form
  have R0 := Lib.hid (Blk.new w (mca m) 40)
  have HE := Lib.hid ((Env.start ht hz).alloc (.cells (mca m) 40))
  have HF := Lib.hid (tby_any m hw _ (ha.below (below1 w (.cells (mca m) 40))) HE.out.tab HE.out.lt)
  have HL := Lib.hid hl
  have HWL := Lib.hid hwl
  clear ht ha hw hl hwl
  go_enter Tryz.func141, Tryz.ntmps141
  go_upto_region 2 with (first
    | (refine wpList_load_row rfl 40 _ rfl w.heap.size rfl 40 (mca m) (0, 0) _ R0.out Tryz.underlying40 rfl infoM ?_)
    | (go_at_call 111; refine HF.out.mono ?_; rintro e w1 ⟨g, cb, rfl, eg, hpa, hbm, hw1⟩))
  have hp := hpa.pred hbm (HE.out.below hw1).tab (HE.out.below hw1).lt
  have HB1 := Lib.hid (HE.out.below hw1).kept
  have HL1 := Lib.hid (HL.out.below okR HB1.out)
  have HP := Lib.hid hp
  clear hp hpa hbm hw1 HE HF R0 HL
  generalize tcS m = q at *
  go_wp2_with fail
  go_loopg [6, 13] l.length (fun k s6 s13 wr => ∃ r : Nat, r + k = l.length ∧ s13 = .int .i64 r ∧ KOwns KI w1.heap.size s6 (hits q l r) wr ∧ Below w1.heap.size w1 wr)
  case atStart => exact ⟨0, by omega, rfl, KOwns.nil _ _, Below.refl _ _⟩
  case round =>
    obtain ⟨r, hr, rfl, ho, hb⟩ := hrel
    have HO := Lib.hid ho
    have HB := Lib.hid hb
    clear ho hb
    by_cases hlt : r < l.length
    · have hltI : (r : Int) < (l.length : Int) := by omega
      obtain ⟨x, hx⟩ := lt_some hlt
      obtain ⟨b, o, rfl, hrg⟩ := (HL1.out.below okR HB.out).at hx
      have HR := Lib.hid hrg
      have HX := Lib.hid hx
      have HWx := Lib.hid (HWL.out.at hx)
      clear hrg hx
      go_upto_region 6 with (first
        | (refine wpList_load_mid rfl 88 _ rfl b (o + r * 32) rfl (rcl x) _ HR.out Tryz.underlying88 rfl infoR ?_)
        | (refine wpList_store_row rfl 88 _ _ rfl wr.heap.size (rca x) rfl rfl 88 _ (heap_alloc_new _ _) (by kernel_rfl) rfl (rca_one _) ?_; rw [World.setRow_alloc_new]))
      have RX := Lib.hid (Blk.new wr (rca x) 88)
      have HO1 := Lib.hid (HO.out.below (below1 wr (.cells (rca x) 88)))
      have HB2 := Lib.hid (HB.out.alloc HB.out.size (.cells (rca x) 88))
      clear HR HO HB
      generalize wr.alloc (.cells (rca x) 88) = W at *
      have HC := Lib.hid (show Calls Tryz.prog g (#[.agg (rca x)] ++ cb) W _ from HP.out W HB2.out x HWx.out)
      cases hq : q x
      · rw [hq] at HC
        have HH := Lib.hid (hits_no HX.out hq)
        clear hq
        go_wp2_with (first
          | (refine wpList_load_row rfl 88 _ rfl wr.heap.size rfl 88 (rca x) (0, 0) _ RX.out Tryz.underlying88 rfl infoR ?_)
          | (go_at_fn g; refine HC.out.mono ?_; rintro e w2 ⟨rfl, hw2⟩))
        have HO2 := Lib.hid (HO1.out.below hw2)
        have HB3 := Lib.hid (HB2.out.trans (hw2.mono HB2.out.size))
        clear hw2 HC RX HO1 HB2
        go_roundg (l.length - (r + 1))
        case measure => omega
        case rel =>
          refine ⟨r + 1, by omega, by go_num, ?_, HB3.out⟩
          rw [HH.out]
          exact HO2.out
      · rw [hq] at HC
        have HH := Lib.hid (hits_yes HX.out hq)
        clear hq
        go_upto_region 7 with (first
          | (refine wpList_load_row rfl 88 _ rfl wr.heap.size rfl 88 (rca x) (0, 0) _ RX.out Tryz.underlying88 rfl infoR ?_)
          | (go_at_fn g; refine HC.out.mono ?_; rintro e w2 ⟨rfl, hw2⟩))
        have HO2 := Lib.hid ((HO1.out.below hw2).below (below1 w2 (.cells #[.int .i64 (r : Int)] KI.T)))
        have HB3 := Lib.hid (HB2.out.trans (hw2.mono HB2.out.size))
        have HB4 := Lib.hid (HB3.out.alloc HB3.out.size (.cells #[.int .i64 (r : Int)] KI.T))
        have HK := Lib.hid (Blk.klies (K := KI) (l := [r]) (Blk.new w2 #[.int .i64 (r : Int)] KI.T) okI rfl)
        have hle : (hits q l r).length ≤ r := hits_len
        have HLE := Lib.hid (show (hits q l r).length + [r].length ≤ 1000000 by simp; omega)
        clear hw2 HC RX HO1 HB2 hle
        go_wp2_with (first
          | (refine kbuild KI okI 1 #[.int .i64 0] zeroI rfl _ rfl [(0, .int .i64 (r : Int))] rfl #[.int .i64 (r : Int)] (by decide) (by decide) (fillI r) ?_)
          | (refine kappend KI okI rfl _ _ rfl w1.heap.size _ (hits q l r) [r] rfl HO2.out _ rfl HK.out HB4.out.size HLE.out (fun v' w' ho hg => ?_); refine Hid.out ?_))
        have HO5 := Lib.hid ho
        have HB5 := Lib.hid (kbelowOwn HB4.out HO2.out (Nat.le_refl _) hg)
        clear ho hg HO2 HB3 HB4 HK
        refine Lib.hid ?_
        go_wp2_with fail
        go_roundg (l.length - (r + 1))
        case measure => omega
        case rel =>
          refine ⟨r + 1, by omega, by go_num, ?_, HB5.out⟩
          rw [HH.out]
          exact HO5.out
    · have hltI : ¬ (r : Int) < (l.length : Int) := by omega
      have hr' : r = l.length := by omega
      have HT := Lib.hid hr'
      go_wp2_with fail
      go_ret
      refine ⟨_, rfl, ?_, HB1.out.trans (HB.out.mono HB1.out.size)⟩
      rw [← HT.out]
      exact HO.out.mono HB1.out.size
end Go.Proofs.YtomnpfbebimpkaaGreatDoor

/-
  The walk of modify of package mods.
-/
namespace Go.Proofs.YtomnpfbebimpkaaGreatDoor
set_option maxRecDepth 20000
open Go.RowKit

/-- the Acts of one rule of a table replaced by others of one's own -/
theorem CpS.acts {B : Nat} {w W : World} {g n : Nat} {L : List Rm} (h : CpS B w g n L W) {i : Nat} {x : Rm} (hi : L[i]? = some x) {q : Option Addr} {k c : Nat} {acts : List Ac} (ha : KOwns KA (g + 1) (.slice q k c) acts W) :
    CpS B w g n (L.set i ⟨{ x.u with acts := acts }, q, k, c⟩) (W.setCell ⟨g, i * 32 + 25, none⟩ (.slice q k c)) := by
  have keep : ∀ (v : Value) (a : List Ac), KOwns KA (g + 1) v a W → KOwns KA (g + 1) v a (W.setCell ⟨g, i * 32 + 25, none⟩ (.slice q k c)) := fun v a hv => KOwns.other hv fun k' hk' _ => heap_setCell_other _ _ _ _ (by show k' ≠ g; omega)
  refine ⟨h.1.cell okR (m := 25) hi (.slice q k c) (by decide) ?_, fun y hy => ?_, h.2.2.1.setCell h.2.2.2 _ (p := ⟨g, i * 32 + 25, none⟩), h.2.2.2⟩
  · show cl x.u.m ++ rtl _ = (cl x.u.m ++ rtl x).set 25 _
    rw [List.set_append_right _ _ (by simp [cl])]
    simp [cl, rtl]
  · rcases List.mem_or_eq_of_mem_set hy with hy | rfl
    · exact keep _ _ (h.2.1 y hy)
    · exact keep _ _ ha
theorem KLies.eqOn {α : Type} {K : Kd α} {v : Value} {l : List α} {W W' : World} (h : KLies K v l W) (ok : K.Ok) (hb : ∀ b, v.ownBlock = some b → b < W.heap.size → W'.heap[b]? = W.heap[b]?) : KLies K v l W' := by
  rcases h with h | ⟨ad, cap, h1, h2, h3⟩
  · exact .inl h
  · refine .inr ⟨ad, cap, h1, h2, fun i a ha => ⟨(h3 i a ha).1, fun j u hu => ?_⟩⟩
    have h4 := (h3 i a ha).2
    exact (World.cell?_of_block (a := ⟨ad.block, ad.off + i * K.n + j, none⟩) (hb ad.block (by rw [h1]; rfl) (ok.rangeLt h4))).trans (h4 j u hu)
theorem grown_setCell (W : World) (g k : Nat) (v : Value) : (W.setCell ⟨g, k, none⟩ v).heap.size = W.heap.size := heap_stM_size [v] k W
/-- the rules so far: those at the places named are modified -/
def MdS (P : List Nat) (acts : List Ac) (l L : List Rm) : Prop := L.length = l.length ∧ ∀ (j : Nat) x, l[j]? = some x → ∃ y, L[j]? = some y ∧ y.u = if j ∈ P then { x.u with acts := acts } else x.u
theorem MdS.start {acts : List Ac} {l L : List Rm} (h : L.map (·.u) = l.map (·.u)) : MdS [] acts l L := by
  have hl : L.length = l.length := by simpa using congrArg List.length h
  refine ⟨hl, fun j x hx => ?_⟩
  obtain ⟨y, hy⟩ := lt_some (l := L) (i := j) (by rw [hl]; exact (List.getElem?_eq_some_iff.1 hx).1)
  refine ⟨y, hy, ?_⟩
  have := congrArg (·[j]?) h
  simp only [List.getElem?_map, hy, hx, Option.map_some, Option.some.injEq] at this
  simpa using this
theorem MdS.step {P : List Nat} {acts : List Ac} {l L : List Rm} (h : MdS P acts l L) {i : Nat} {x y : Rm} (hx : l[i]? = some x) (hy : L[i]? = some y) (q : Option Addr) (k c : Nat) : MdS (P ++ [i]) acts l (L.set i ⟨{ y.u with acts := acts }, q, k, c⟩) := by
  have hil := (List.getElem?_eq_some_iff.1 hy).1
  refine ⟨by simpa using h.1, fun j z hz => ?_⟩
  obtain ⟨y', hy', e'⟩ := h.2 j z hz
  by_cases e : j = i
  · subst e
    rw [hx] at hz
    injection hz with hz
    subst hz
    rw [hy] at hy'
    injection hy' with hy'
    subst hy'
    refine ⟨_, List.getElem?_set_self hil, ?_⟩
    rw [if_pos (by simp)]
    rw [e']
    split <;> rfl
  · refine ⟨y', by rw [List.getElem?_set_ne (Ne.symm e)]; exact hy', ?_⟩
    rw [e']
    by_cases hp : j ∈ P
    · rw [if_pos hp, if_pos (by simp [hp])]
    · rw [if_neg hp, if_neg (by simp [hp, e])]
theorem MdS.done {m : Mm} {l L : List Rm} (hs : sndM m.u = true) (h : MdS (hits (tcS m) l l.length) m.u.acts l L) : L.map (·.u) = (l.map (·.u)).map (modU m.u) := by
  apply List.ext_getElem?
  intro j
  rw [List.getElem?_map, List.getElem?_map, List.getElem?_map]
  cases hx : l[j]? with
  | none =>
    have : L[j]? = none := by rw [List.getElem?_eq_none_iff] at hx ⊢; rw [h.1]; exact hx
    rw [this]; rfl
  | some x =>
    obtain ⟨y, hy, e⟩ := h.2 j x hx
    rw [hy]
    simp only [Option.map_some, Option.some.injEq]
    have hj := (List.getElem?_eq_some_iff.1 hx).1
    rw [e]
    have hm : (j ∈ hits (tcS m) l l.length) ↔ tchB m.u x.u = true := by
      rw [hits_mem hj]
      unfold hitAt tcS
      rw [hx]
      simp only
      rw [hs, Bool.true_and]
    unfold modU
    by_cases ht : tchB m.u x.u = true
    · rw [if_pos (hm.2 ht), if_pos ht]
    · rw [if_neg (fun h => ht (hm.1 h)), if_neg ht]
set_option maxHeartbeats 2000000 in
theorem modify_any (v : Value) (l : List Rm) (hlen : l.length ≤ 100000) (hwl : WfRL l) (m : Mm) (hw : WfM m.u) (hs : sndM m.u = true) (w : World) (hl : RLies v l w) (ha : InM m w) (ht : Tab w) (hz : 0 < w.heap.size) :
    Calls Tryz.prog 109 #[v, .agg (mca m)] w (TabRet w ((l.map (·.u)).map (modU m.u))) := by
  obtain ⟨p, cap, rfl⟩ := hl.1.form
  have R0 := Lib.hid (Blk.new w (mca m) 40)
  have HE := Lib.hid ((Env.start ht hz).alloc (.cells (mca m) 40))
  have HC := Lib.hid (copy_any _ l hlen hwl _ (hl.below (below1 w (.cells (mca m) 40))))
  have HL := Lib.hid hl
  have HA := Lib.hid ha
  have HWL := Lib.hid hwl
  have HW := Lib.hid hw
  have HSN := Lib.hid hs
  clear ht ha hw hl hwl hs
  go_enter Tryz.func109, Tryz.ntmps109
  go_upto_region 2 with (go_at_call 35; refine HC.out.mono ?_; rintro e w1 ⟨g, L0, rfl, hu, hc⟩)
  have R1 := Lib.hid (R0.out.below hc.2.2.1)
  have HE1 := Lib.hid (HE.out.below hc.2.2.1)
  have HCp := Lib.hid (show CpS w.heap.size w g L0.length L0 w1 from ⟨hc.1, hc.2.1, HE1.out.kept, by have := hc.2.2.2; simp at this; omega⟩)
  have HGB := Lib.hid (show w.heap.size < g by have := hc.2.2.2; simp at this; omega)
  have HU := Lib.hid hu
  have HT := Lib.hid (touched_any _ l hlen HWL.out m HW.out w1 (HL.out.1.below okR HE1.out.kept) (HA.out.below HE1.out.kept) HE1.out.tab HE1.out.lt)
  clear hu hc HC HE R0
  go_upto_region 3 with (first
    | (refine wpList_load_row rfl 40 _ rfl w.heap.size rfl 40 (mca m) (0, 0) _ R1.out Tryz.underlying40 rfl infoM ?_)
    | (go_at_call 141; refine HT.out.mono ?_; rintro e w2 ⟨tv, rfl, ho, hw2⟩; obtain ⟨tp, tc, rfl⟩ := ho.form))
  have R2 := Lib.hid (R1.out.below hw2)
  have HB2 := Lib.hid (HE1.out.below hw2).kept
  have HC2 := Lib.hid (HCp.out.below hw2)
  have HO2 := Lib.hid (ho.lies okI)
  have HG2 := Lib.hid (show ∀ k, (Value.slice tp (hits (tcS m) l l.length).length tc).ownBlock = some k → g < k from fun k hk => Nat.lt_of_lt_of_le HCp.out.lt (ho.ge k hk))
  clear hw2 HT HE1 R1 HCp ho
  obtain ⟨P, hP⟩ : ∃ P, P = hits (tcS m) l l.length := ⟨_, rfl⟩
  rw [← hP] at HO2 HG2 ⊢
  have HPl := Lib.hid (show ∀ i ∈ P, i < l.length from fun i hi => hits_lt (by rw [← hP]; exact hi))
  have HPE := Lib.hid hP
  have hPn : P.length ≤ 100000 := by rw [hP]; exact Nat.le_trans hits_len hlen
  clear hP
  have HL0 := Lib.hid (show L0.length = l.length by simpa using congrArg List.length HU.out)
  go_wp2_with fail
  go_loopg [14] P.length (fun k s14 wr => ∃ (t : Nat) (L : List Rm), t + k = P.length ∧ s14 = .int .i64 t ∧ MdS (P.take t) m.u.acts l L ∧ CpS w.heap.size w g L0.length L wr ∧ Blk w.heap.size (mca m) 40 wr ∧ w2.heap.size ≤ wr.heap.size ∧ ∀ b, g < b → b < w2.heap.size → wr.heap[b]? = w2.heap[b]?)
  case atStart => exact ⟨0, L0, by omega, rfl, MdS.start HU.out, HC2.out, R2.out, Nat.le_refl _, fun b _ _ => rfl⟩
  case round =>
    obtain ⟨t, L, ht, rfl, hm, hc, hr, hsz, heq⟩ := hrel
    have HM := Lib.hid hm
    have HCp := Lib.hid hc
    have HR := Lib.hid hr
    have HSZ := Lib.hid hsz
    have HEQ := Lib.hid heq
    clear hm hc hr hsz heq HC2 R2
    by_cases hlt : t < P.length
    · have hltI : (t : Int) < (P.length : Int) := by omega
      obtain ⟨i, hi⟩ := lt_some hlt
      have hil : i < l.length := HPl.out i (List.mem_of_getElem? hi)
      obtain ⟨x, hx⟩ := lt_some hil
      obtain ⟨y, hy⟩ := lt_some (l := L) (i := i) (by rw [HM.out.1]; exact hil)
      have HKI := HO2.out.eqOn okI (fun b hb hlt => HEQ.out b (HG2.out b hb) hlt)
      obtain ⟨b, o, rfl, _⟩ := HKI.at hi
      have kI := HKI.cellI hi
      have hiL : (i : Int) < (L0.length : Int) := by have := HL0.out; omega
      have HX := Lib.hid hx
      have HY := Lib.hid hy
      have HI := Lib.hid hi
      have k26 := HR.out.cellsM.2.2.2.1
      have HCl := Lib.hid (aclone_any (.slice m.q m.n m.c) m.u.acts HW.out.room wr (HA.out.below HCp.out.2.2.1))
      clear hx hy hi HKI
      go_wp2_with (go_at_call 74; refine HCl.out.mono ?_; rintro e w3 ⟨cv, rfl, ho, hw3⟩; refine Hid.out ?_)
      obtain ⟨q, c, rfl⟩ := ho.form
      have HC3 := Lib.hid (HCp.out.below hw3)
      have HOA := Lib.hid (KOwns.mono ho (show g + 1 ≤ wr.heap.size from HCp.out.lt))
      have R3 := Lib.hid (HR.out.below hw3)
      have HSZ3 := Lib.hid (Nat.le_trans HSZ.out hw3.size)
      have HEQ3 := Lib.hid (show ∀ b, g < b → b < w2.heap.size → w3.heap[b]? = w2.heap[b]? from fun b h1 h2 => (hw3.block b (Nat.lt_of_lt_of_le h2 HSZ.out)).trans (HEQ.out b h1 h2))
      have HTH := Lib.hid (show w3.there g (i * 32 + 25) 1 from fun t' ht' => by
        have := HC3.out.1.there (i := i) (by have := HL0.out; omega) (25 + t') (by show 25 + t' < 32; omega)
        rwa [show i * KR.n + (25 + t') = i * 32 + 25 + t' by show i * 32 + (25 + t') = _; omega] at this)
      clear ho hw3 HCl HCp HR HSZ HEQ k26 kI
      refine Lib.hid ?_
      go_wp2_with (refine storeCell rfl 38 _ _ rfl g (i * 32 + 25) (.slice q m.u.acts.length c) rfl rfl rfl HTH.out infoActs ?_; refine Hid.out ?_)
      have HC4 := Lib.hid (HC3.out.acts HY.out HOA.out)
      have R4 := Lib.hid (R3.out.cother (g := g) (k := i * 32 + 25) (by have := HGB.out; omega) (.slice q m.u.acts.length c))
      have HSZ4 := Lib.hid (show w2.heap.size ≤ (w3.setCell ⟨g, i * 32 + 25, none⟩ (.slice q m.u.acts.length c)).heap.size by have := (grown_setCell w3 g (i * 32 + 25) (.slice q m.u.acts.length c)); rw [this]; exact HSZ3.out)
      have HEQ4 := Lib.hid (show ∀ b, g < b → b < w2.heap.size → (w3.setCell ⟨g, i * 32 + 25, none⟩ (.slice q m.u.acts.length c)).heap[b]? = w2.heap[b]? from fun b h1 h2 => (heap_setCell_other _ _ _ _ (by show b ≠ g; omega)).trans (HEQ3.out b h1 h2))
      have HM4 := Lib.hid (show MdS (P.take (t + 1)) m.u.acts l (L.set i ⟨{ y.u with acts := m.u.acts }, q, m.u.acts.length, c⟩) from by
        have := HM.out.step HX.out HY.out q m.u.acts.length c
        rwa [show P.take (t + 1) = P.take t ++ [i] by rw [List.take_add_one, HI.out]; rfl])
      clear HC3 HOA R3 HSZ3 HEQ3 HTH
      generalize w3.setCell ⟨g, i * 32 + 25, none⟩ (.slice q m.u.acts.length c) = W4 at *
      refine Lib.hid ?_
      go_wp2_with fail
      go_roundg (P.length - (t + 1))
      case measure => omega
      case rel => exact ⟨t + 1, _, by omega, by go_num, HM4.out, HC4.out, R4.out, HSZ4.out, HEQ4.out⟩
    · have hltI : ¬ (t : Int) < (P.length : Int) := by omega
      have ht' : t = P.length := by omega
      have HT := Lib.hid ht'
      go_wp2_with fail
      go_ret
      have hLl : L.length = L0.length := by rw [HM.out.1, HL0.out]
      refine ⟨g, L, by rw [hLl]; rfl, ?_, ?_⟩
      · have h0 := HM.out
        rw [HT.out, List.take_length, HPE.out] at h0
        have h1 := MdS.done HSN.out h0
        first | exact h1 | (rw [List.map_map] at h1; exact h1)
      · rw [hLl]; exact HCp.out
end Go.Proofs.YtomnpfbebimpkaaGreatDoor

/-
  slices.Grow of nothing, and slices.Concat of two lists of rules.
-/
namespace Go.Proofs.YtomnpfbebimpkaaGreatDoor
set_option maxRecDepth 20000
open Go.RowKit

/-- append of a make to nothing -/
theorem growNil {ops : Array Oper} {rest : List Oper} {o : Oper} {a : Act} {w : World} {Q : Exit → Act → World → Prop} (hgd : o.guard = none) (s x : Operand) (ho : o.op = .call { callee := .builtin .append, args := #[s, x], argTypes := #[27, 3] })
    (n : Nat) (hn : 0 < n) (hlen : n ≤ 1000000) (hs : a.eval s = .slice none 0 0) (hx : a.eval x = .int .i64 (n : Int))
    (h : ∀ cap W, n ≤ cap → KAt KR w.heap.size cap [] W → Below w.heap.size w W → wpList Tryz.prog ops Q rest (a.put o.dst (.slice (some ⟨w.heap.size, 0, none⟩) n cap)) W) : wpList Tryz.prog ops Q (o :: rest) a w := by
  obtain ⟨i, z, hi, hz, hsz, hby, hcz⟩ := okR.info
  have hrun := Lib.run_append_nil_zeros (P := Tryz.prog) w 27 3 o.type 88 i z .i64 .i64 okR.under Tryz.underlying3 hi hz n hn (by rw [hsz]; decide) (by omega) (by rw [hby]; show n * 272 ≤ _; omega)
  have hge := grownCap_ge w n 0 88
  have hml := grownCap_le_maxLen w n 0 88 (by unfold maxLen; omega)
  refine wpList_plain hgd fun K hK => ?_
  unfold Oper.wp
  simp [execOp, ho, resolve, invoke, builtin, hs, hx, hrun, Result.andThen]
  refine hK _ _ (h _ _ hge ⟨Nat.zero_le _, hml, _, heap_alloc_new w.drew _, ?_, fun i a hia => (by simp at hia)⟩ ?_)
  · have e : ∀ k, (Builtin.zeroCells z.cells k).size = k * 32 := fun k => by simp [Builtin.zeroCells, hcz]
    rw [Array.size_append, e, e]
    show n * 32 + (grownCap w n 0 88 - n) * 32 = grownCap w n 0 88 * 32
    omega
  · exact (Below.refl w.heap.size w).drew.alloc (Nat.le_refl _) _
/-- room for rules -/
def GrwRet (w : World) (e : Ending) (w' : World) : Prop := ∃ v, e = .returned v ∧ KOwns KR w.heap.size v [] w' ∧ Below w.heap.size w w'
set_option maxHeartbeats 1000000 in
theorem rgrow_any (n : Nat) (hn : 0 < n) (hlen : n ≤ 1000000) (w : World) : Calls Tryz.prog 155 #[.slice none 0 0, .int .i64 (n : Int)] w (GrwRet w) := by
  have h1 : ¬ ((n : Int) < 0) := by omega
  have h2 : (n : Int) > 0 := by omega
  go_enter Tryz.func155, Tryz.ntmps155
  go_wp2_with (refine growNil rfl _ _ rfl n hn hlen rfl rfl (fun cap W hcap hk hb => ?_); refine Hid.out ?_)
  have HO := Lib.hid (KAt.owns okR hk (Nat.le_refl _))
  have HB := Lib.hid hb
  clear hk hb
  refine Lib.hid ?_
  go_wp2_with fail
  go_ret
  exact ⟨_, rfl, HO.out, HB.out⟩
set_option maxHeartbeats 2000000 in
theorem concat_any (b : Nat) (v1 v2 : Value) (l1 l2 : List Rm) (hn : 0 < l2.length) (hlen : l1.length + l2.length ≤ 1000000) (w : World) (hB : Blk b #[v1, v2] 27 w) (h1 : KLies KR v1 l1 w) (h2 : KLies KR v2 l2 w) :
    Calls Tryz.prog 140 #[.slice (some ⟨b, 0, none⟩) 2 2] w (OwnRet KR w (l1 ++ l2)) := by
  obtain ⟨p1, c1, rfl⟩ := h1.form
  obtain ⟨p2, c2, rfl⟩ := h2.form
  have HB := Lib.hid hB
  have H1 := Lib.hid h1
  have H2 := Lib.hid h2
  have kb0 : w.cell? ⟨b, 0, none⟩ = some (.slice p1 l1.length c1) := (cell_of_row w b 0 _ _ _ hB).trans rfl
  have kb1 : w.cell? ⟨b, 1, none⟩ = some (.slice p2 l2.length c2) := (cell_of_row w b 1 _ _ _ hB).trans rfl
  obtain ⟨n1, hn1⟩ : ∃ n, n = l1.length := ⟨_, rfl⟩
  obtain ⟨n2, hn2⟩ : ∃ n, n = l2.length := ⟨_, rfl⟩
  rw [← hn1] at kb0 H1 hlen
  rw [← hn2] at kb1 H2 hlen hn
  have N1 := Lib.hid hn1
  have N2 := Lib.hid hn2
  clear hB h1 h2 hn1 hn2
  have g1 : ¬ ((n1 : Int) < 0) := by omega
  have g2 : ¬ (((n1 + n2 : Nat) : Int) < 0) := by omega
  have e1 : wrap64 (0 + (n1 : Int)) = (n1 : Int) := by unfold wrap64; omega
  have e2 : wrap64 ((n1 : Int) + (n2 : Int)) = ((n1 + n2 : Nat) : Int) := by unfold wrap64; omega
  have HG := Lib.hid (rgrow_any (n1 + n2) (by omega) hlen w)
  go_enter Tryz.func140, Tryz.ntmps140
  go_wp2_with fail
  go_loopg [3, 11] 2 (fun k s3 s11 wr => w = wr ∧ ((k = 2 ∧ s3 = .int .i64 0 ∧ s11 = .int .i64 0) ∨ (k = 1 ∧ s3 = .int .i64 (n1 : Int) ∧ s11 = .int .i64 1) ∨ (k = 0 ∧ s3 = .int .i64 ((n1 + n2 : Nat) : Int) ∧ s11 = .int .i64 2)))
  case atStart => exact ⟨rfl, .inl ⟨rfl, rfl, rfl⟩⟩
  case round =>
    obtain ⟨rfl, ⟨rfl, rfl, rfl⟩ | ⟨rfl, rfl, rfl⟩ | ⟨rfl, rfl, rfl⟩⟩ := hrel
    · go_wp2_with fail
      go_roundg 1
      case measure => omega
      case rel => exact ⟨rfl, .inr (.inl ⟨rfl, by first | rfl | rw [e1] | go_num, by first | rfl | go_num⟩)⟩
    · go_wp2_with fail
      go_roundg 0
      case measure => omega
      case rel => exact ⟨rfl, .inr (.inr ⟨rfl, by first | rfl | rw [e2] | go_num, by first | rfl | go_num⟩)⟩
    · clear kb0 kb1
      go_wp2_with (go_at_call 155; refine HG.out.mono ?_; rintro e w1 ⟨v0, rfl, ho, hw1⟩; refine Hid.out ?_)
      have HO := Lib.hid ho
      have HW1 := Lib.hid hw1
      clear ho hw1 HG
      refine Lib.hid ?_
      go_wp2_with fail
      go_loopg [6, 27] 2 (fun k s6 s27 wr => Below w.heap.size w wr ∧ ((k = 2 ∧ KOwns KR w.heap.size s6 [] wr ∧ s27 = .int .i64 0) ∨ (k = 1 ∧ KOwns KR w.heap.size s6 l1 wr ∧ s27 = .int .i64 1) ∨ (k = 0 ∧ KOwns KR w.heap.size s6 (l1 ++ l2) wr ∧ s27 = .int .i64 2)))
      case atStart => exact ⟨HW1.out, .inl ⟨rfl, HO.out, rfl⟩⟩
      case round =>
        clear HO HW1
        obtain ⟨hb, ⟨rfl, ho, rfl⟩ | ⟨rfl, ho, rfl⟩ | ⟨rfl, ho, rfl⟩⟩ := hrel
        · have HO := Lib.hid ho
          have HBw := Lib.hid hb
          have HK := Lib.hid (H1.out.below okR hb)
          have kb := (cell_of_row wr b 0 _ _ _ (HB.out.below hb)).trans rfl
          simp only [← N1.out, ← N2.out] at kb
          have HLE := Lib.hid (show ([] : List Rm).length + l1.length ≤ 1000000 by have := N1.out; have := N2.out; simp; omega)
          clear ho hb
          go_wp2_with (refine kappend KR okR rfl _ _ rfl w.heap.size _ [] l1 rfl HO.out _ rfl HK.out HBw.out.size HLE.out (fun v' w' ho hg => ?_); refine Hid.out ?_)
          have HO2 := Lib.hid ho
          have HB2 := Lib.hid (kbelowOwn HBw.out HO.out (Nat.le_refl _) hg)
          clear ho hg HO HBw HK kb
          refine Lib.hid ?_
          go_wp2_with fail
          go_roundg 1
          case measure => omega
          case rel => exact ⟨HB2.out, .inr (.inl ⟨rfl, HO2.out, by first | rfl | go_num⟩)⟩
        · have HO := Lib.hid ho
          have HBw := Lib.hid hb
          have HK := Lib.hid (H2.out.below okR hb)
          have kb := (cell_of_row wr b 1 _ _ _ (HB.out.below hb)).trans rfl
          simp only [← N1.out, ← N2.out] at kb
          have HLE := Lib.hid (show (l1 : List Rm).length + l2.length ≤ 1000000 by have := N1.out; have := N2.out; simp; omega)
          clear ho hb
          go_wp2_with (refine kappend KR okR rfl _ _ rfl w.heap.size _ l1 l2 rfl HO.out _ rfl HK.out HBw.out.size HLE.out (fun v' w' ho hg => ?_); refine Hid.out ?_)
          have HO2 := Lib.hid ho
          have HB2 := Lib.hid (kbelowOwn HBw.out HO.out (Nat.le_refl _) hg)
          clear ho hg HO HBw HK kb
          refine Lib.hid ?_
          go_wp2_with fail
          go_roundg 0
          case measure => omega
          case rel => exact ⟨HB2.out, .inr (.inr ⟨rfl, HO2.out, by first | rfl | go_num⟩)⟩
        · have HO := Lib.hid ho
          have HBw := Lib.hid hb
          clear ho hb
          go_wp2_with fail
          go_ret
          exact ⟨_, rfl, HO.out, HBw.out⟩
end Go.Proofs.YtomnpfbebimpkaaGreatDoor

/-
  The walk of slices.DeleteFunc over a table of one's own.
-/
namespace Go.Proofs.YtomnpfbebimpkaaGreatDoor
set_option maxRecDepth 20000
open Go.RowKit

/-- clear of a slice of rules -/
theorem run_clear_rules (w : World) (ty : TypeId) (b o n c : Nat) (hn : 0 < n) (hc : ∀ j, j < n * 32 → (w.cell? ⟨b, o + j, none⟩).isSome = true) (hf : ∀ j, j < n * 32 → w.frozen? ⟨b, o + j, none⟩ = false) :
    ∃ vs, (Builtin.clear_ #[27] ty #[.slice (some ⟨b, o, none⟩) n c]).run Tryz.prog w = .ok (.tuple #[]) (w.setCells b o vs) := by
  obtain ⟨i, z, hi, hz, hs, hb, hzs⟩ := okR.info
  have hzc := zeroOf zeroR hi hz
  have hv : (zeroValue 88).run Tryz.prog w = .ok z w := by simp [zeroValue, typeInfo, hi, hz]
  refine ⟨(Builtin.zeroCells z.cells n).toList, ?_⟩
  have hlen : (Builtin.zeroCells z.cells n).toList.length = n * 32 := by simp [Builtin.zeroCells, hzs]
  have hst := run_storeCells_cells (P := Tryz.prog) b o (Builtin.zeroCells z.cells n).toList 0 w (by rw [hlen]; simpa using hc) (by rw [hlen]; simpa using hf) (by
    intro v hv'
    have hall : z.cells.all (·.oneCell') = true := by rw [hzc]; kernel_rfl
    simp only [Builtin.zeroCells, Array.toList_map, List.mem_map] at hv'
    obtain ⟨k, _, rfl⟩ := hv'
    have hk : k % z.cells.size < z.cells.size := Nat.mod_lt _ (by rw [hzs]; decide)
    rw [getElem!_pos z.cells _ hk]
    exact (Array.all_eq_true.1 hall) _ hk)
  simp only [Nat.add_zero] at hst
  obtain ⟨m, rfl⟩ : ∃ m, n = m + 1 := ⟨n - 1, by omega⟩
  simp [Builtin.clear_, run_underlying Tryz.underlying27, hv, hst]
/-- how far DeleteFunc is: i rules kept of the first j; the others as they were -/
structure KeptR (q : Rm → Bool) (l : List Rm) (i j : Nat) (d : List Rm) : Prop where
  len : d.length = l.length
  lt : i < j
  le : j ≤ l.length
  pre : d.take i = (l.take j).filter fun c => !q c
  post : ∀ k, j ≤ k → d[k]? = l[k]?
section
variable {q : Rm → Bool} {l d : List Rm} {i j : Nat} {x : Rm}
theorem KeptR.start (hx : l[i]? = some x) (h1 : q x = true) (h2 : ∀ (j : Nat) b, j < i → l[j]? = some b → q b = false) : KeptR q l i (i + 1) l := by
  refine ⟨rfl, Nat.lt_succ_self _, (List.getElem?_eq_some_iff.1 hx).1, ?_, fun _ _ => rfl⟩
  rw [List.take_add_one, hx, List.filter_append]
  have : (l.take i).filter (fun c => !q c) = l.take i := List.filter_eq_self.2 fun y hy => by
    obtain ⟨j, hj, rfl⟩ := List.mem_iff_getElem.1 hy
    have hj' : j < i := by rw [List.length_take] at hj; omega
    have hjl : j < l.length := by rw [List.length_take] at hj; omega
    have := h2 j l[j] hj' (List.getElem?_eq_getElem hjl)
    rw [List.getElem_take, this]
    rfl
  rw [this]
  simp [h1]
theorem KeptR.keep (h : KeptR q l i j d) (hx : l[j]? = some x) (hq : q x = false) : KeptR q l (i + 1) (j + 1) (d.set i x) := by
  have hj := (List.getElem?_eq_some_iff.1 hx).1
  have hl := h.len
  have hlt := h.lt
  refine ⟨by rw [List.length_set]; exact hl, by omega, hj, ?_, fun k hk => ?_⟩
  · rw [List.take_add_one, List.getElem?_set_self (by omega), List.take_set_of_le (Nat.le_refl _), h.pre, List.take_add_one, hx, List.filter_append]
    simp [hq]
  · rw [List.getElem?_set_ne (by omega)]; exact h.post k (by omega)
theorem KeptR.skip (h : KeptR q l i j d) (hx : l[j]? = some x) (hq : q x = true) : KeptR q l i (j + 1) d := by
  have hj := (List.getElem?_eq_some_iff.1 hx).1
  refine ⟨h.len, by have := h.lt; omega, hj, ?_, fun k hk => h.post k (by omega)⟩
  rw [h.pre, List.take_add_one, hx, List.filter_append]
  simp [hq]
theorem KeptR.done (h : KeptR q l i l.length d) : d.take i = l.filter fun c => !q c := by rw [h.pre, List.take_length]
theorem kidx_cases (q : Rm → Bool) (l : List Rm) : (kidx q l = -1 ∧ ∀ x ∈ l, q x = false) ∨ ∃ (i : Nat) (x : Rm), kidx q l = i ∧ l[i]? = some x ∧ q x = true ∧ ∀ (j : Nat) b, j < i → l[j]? = some b → q b = false := by
  unfold kidx
  cases h : l.findIdx? q with
  | none =>
    rw [List.findIdx?_eq_none_iff] at h
    exact .inl ⟨rfl, h⟩
  | some i =>
    rw [List.findIdx?_eq_some_iff_getElem] at h
    obtain ⟨hi, h1, h2⟩ := h
    refine .inr ⟨i, l[i], rfl, List.getElem?_eq_getElem hi, h1, fun j b hj hb => ?_⟩
    obtain ⟨hl, rfl⟩ := List.getElem?_eq_some_iff.1 hb
    simpa using h2 j hj
end
/-- a list of one's own that a call gives -/
def DelR (w0 : World) (L : List Rm) (e : Ending) (w' : World) : Prop := ∃ v, e = .returned v ∧ InS w0 v L w'
/-- what DeleteFunc has while it goes over the rules -/
def RdS (w0 : World) (q : Rm → Bool) (l : List Rm) (B Bm : Nat) (m : Mm) (i j : Nat) (W : World) : Prop :=
  ∃ d, KeptR q l i j d ∧ KAt KR B l.length d W ∧ (∀ r ∈ l, OwnA (B + 1) r W) ∧ Below w0.heap.size w0 W ∧ Blk Bm (mca m) 40 W
/-- a row of rules cut, and what is behind it wiped -/
theorem KAt.wipe {g cap : Nat} {l : List Rm} {W : World} (h : KAt KR g cap l W) (vs : List Value) : KAt KR g cap l (W.setCells g (l.length * 32) vs) := by
  obtain ⟨h1, h2, cur, h3, h4, h5⟩ := h
  refine ⟨h1, h2, stM cur (l.length * 32) vs, heap_stM _ _ _ _ h3, by rw [stM_size]; exact h4, fun i a ha j u hu => ?_⟩
  have hi := (List.getElem?_eq_some_iff.1 ha).1
  have hj : j < 32 := by have := (List.getElem?_eq_some_iff.1 hu).1; rwa [okR.len] at this
  rw [stM_out _ _ _ _ (.inl (show i * 32 + j < l.length * 32 by omega))]
  exact h5 i a ha j u hu
set_option maxHeartbeats 2000000 in
theorem rdelete_some (g : Nat) (cb : Array Value) (q : Rm → Bool) (eg : ∀ args w, (callFunc g args).run Tryz.prog w = .ok (.enter g args) w) (B Bm : Nat) (m : Mm) (l : List Rm) (hlen : l.length ≤ 100000) (hw : WfRL l) (w0 w : World) (hne : Bm ≠ B)
    (hl : CpS w0.heap.size w0 B l.length l w) (hpa : PredA g cb q Bm m) (hbm : Blk Bm (mca m) 40 w) (ht : Tab w0) (hz : 0 < w0.heap.size) (k0 : Nat) (x0 : Rm) (hidx : kidx q l = k0) (hx0 : l[k0]? = some x0) (h1 : q x0 = true) (h2 : ∀ (j : Nat) b, j < k0 → l[j]? = some b → q b = false) :
    Calls Tryz.prog 110 #[.slice (some ⟨B, 0, none⟩) l.length l.length, .func (.func g) #[] cb] w (DelR w0 (l.filter fun c => !q c)) := by
  have HE := Lib.hid (fun (W : World) (hb : Below w0.heap.size w0 W) => (Env.start ht hz).predK W hb)
  have hB := hl.2.2.2
  have HI := Lib.hid (rindex_any g cb q eg (some ⟨B, 0, none⟩) l.length l (by omega) hw w (hl.lies).1 (hpa.pred hbm (HE.out w hl.2.2.1).1 (HE.out w hl.2.2.1).2))
  rw [hidx] at HI
  have HS := Lib.hid (show RdS w0 q l B Bm m k0 (k0 + 1) w from ⟨l, KeptR.start hx0 h1 h2, hl.1, hl.2.1, hl.2.2.1, hbm⟩)
  have hk0 : k0 < l.length := (List.getElem?_eq_some_iff.1 hx0).1
  have HP := Lib.hid hpa
  have HW := Lib.hid hw
  clear hl hpa hw hbm hidx hx0 h1 h2 ht
  have hne1 : ((k0 : Int) == -1) = false := beq_eq_false_iff_ne.2 (by omega)
  go_enter Tryz.func110, Tryz.ntmps110
  go_wp2_with (go_at_call 133; refine HI.out.mono ?_; rintro e w1 ⟨rfl, hw1⟩)
  have HS1 := Lib.hid (show RdS w0 q l B Bm m k0 (k0 + 1) w1 from by
    obtain ⟨d, a, b, c, e, f⟩ := HS.out
    exact ⟨d, a, b.below hw1, fun r hr => (c r hr).below hw1, e.trans (hw1.mono e.size), f.below hw1⟩)
  clear hw1 HS HI
  go_loopg [5, 6] (l.length - (k0 + 1)) (fun k s5 s6 wr => ∃ i j : Nat, j + k = l.length ∧ s5 = .int .i64 i ∧ s6 = .int .i64 j ∧ RdS w0 q l B Bm m i j wr)
  case atStart => exact ⟨k0, k0 + 1, by omega, rfl, by go_num, HS1.out⟩
  case round =>
    clear HS1
    obtain ⟨i, j, hj, rfl, rfl, d, hK, hO, hA, hBe, hM⟩ := hrel
    have HK := Lib.hid hK
    have HO := Lib.hid hO
    have HA := Lib.hid hA
    have HB := Lib.hid hBe
    have HM := Lib.hid hM
    clear hK hO hBe hA hM
    by_cases hlt : j < l.length
    · have hltI : (j : Int) < (l.length : Int) := by omega
      have hij := HK.out.lt
      have hilI : (i : Int) < (l.length : Int) := by omega
      have hil : i < l.length := by omega
      obtain ⟨x, hx⟩ := lt_some hlt
      have HX := Lib.hid hx
      have HR := Lib.hid (show wr.rangeAt B (j * 32) (rcl x) from HO.out.range (by rw [HK.out.post j (Nat.le_refl _)]; exact hx))
      have HB1 := Lib.hid (HB.out.alloc HB.out.size (.cells (rca x) 88))
      have HC := Lib.hid (show Calls Tryz.prog g (#[.agg (rca x)] ++ cb) (wr.alloc (.cells (rca x) 88)) _ from HP.out (wr.alloc (.cells (rca x) 88)) (HM.out.below (below1 _ _)) (HE.out _ HB1.out).1 (HE.out _ HB1.out).2 x (HW.out.at hx))
      have R0 := Lib.hid (Blk.new wr (rca x) 88)
      have HO1 := Lib.hid (HO.out.below (below1 wr (.cells (rca x) 88)))
      have HA1 := Lib.hid (show ∀ r ∈ l, OwnA (B + 1) r (wr.alloc (.cells (rca x) 88)) from fun r hr => (HA.out r hr).below (below1 wr (.cells (rca x) 88)))
      have HM1 := Lib.hid (HM.out.below (below1 wr (.cells (rca x) 88)))
      clear hx HO HA HB HM
      cases hq : q x
      · rw [hq] at HC
        have HK1 := Lib.hid (HK.out.keep HX.out hq)
        clear hq
        go_wp2_with (first
          | (refine wpList_load_mid rfl 88 _ rfl B (j * 32) rfl (rcl x) _ HR.out Tryz.underlying88 rfl infoR ?_)
          | (refine wpList_store_row rfl 88 _ _ rfl wr.heap.size (rca x) rfl rfl 88 _ (heap_alloc_new _ _) (by kernel_rfl) rfl (rca_one _) ?_; rw [World.setRow_alloc_new])
          | (refine wpList_load_row rfl 88 _ rfl wr.heap.size rfl 88 (rca x) (0, 0) _ R0.out Tryz.underlying88 rfl infoR ?_))
        refine HC.out.mono ?_
        rintro e w2 ⟨rfl, hw2⟩
        have R1 := Lib.hid (R0.out.below hw2)
        have HO2 := Lib.hid (HO1.out.below hw2)
        have HA2 := Lib.hid (show ∀ r ∈ l, OwnA (B + 1) r w2 from fun r hr => (HA1.out r hr).below hw2)
        have HB2 := Lib.hid (HB1.out.trans (hw2.mono HB1.out.size))
        have HM2 := Lib.hid (HM1.out.below hw2)
        clear hw2 HC R0 HR HO1 HA1 HB1 HM1
        go_upto_region 10 with (first
          | (refine kstore KR okR infoR rfl (.tmp 33) (.tmp 32) rfl B i l.length d x rfl rfl HO2.out hil ?_)
          | (refine wpList_load_row rfl 88 (.tmp 7) rfl wr.heap.size rfl 88 (rca x) (0, 0) _ R1.out Tryz.underlying88 rfl infoR ?_))
        have HO3 := Lib.hid (HO2.out.set okR (show i < d.length by rw [HK.out.len]; exact hil) x)
        have HA3 := Lib.hid (show ∀ r ∈ l, OwnA (B + 1) r (w2.setCells B (i * 32) (rcl x)) from fun r hr => KOwns.other (HA2.out r hr) fun k hk _ => heap_stM_other (by omega) _ _ _)
        have HB3 := Lib.hid (below_stM HB2.out HB2.out.size hB (rcl x) (o := i * 32))
        have HM3 := Lib.hid (show Blk Bm (mca m) 40 (w2.setCells B (i * 32) (rcl x)) from (heap_stM_other hne _ _ _).trans HM2.out)
        clear HO2 HA2 HB2 HM2 R1
        generalize w2.setCells B (i * 32) (rcl x) = w3 at *
        go_wp2
        go_roundg (l.length - (j + 1))
        case measure => omega
        case rel => exact ⟨i + 1, j + 1, by omega, by go_num, by go_num, d.set i x, HK1.out, HO3.out, HA3.out, HB3.out, HM3.out⟩
      · rw [hq] at HC
        have HK1 := Lib.hid (HK.out.skip HX.out hq)
        clear hq
        go_wp2_with (first
          | (refine wpList_load_mid rfl 88 _ rfl B (j * 32) rfl (rcl x) _ HR.out Tryz.underlying88 rfl infoR ?_)
          | (refine wpList_store_row rfl 88 _ _ rfl wr.heap.size (rca x) rfl rfl 88 _ (heap_alloc_new _ _) (by kernel_rfl) rfl (rca_one _) ?_; rw [World.setRow_alloc_new])
          | (refine wpList_load_row rfl 88 _ rfl wr.heap.size rfl 88 (rca x) (0, 0) _ R0.out Tryz.underlying88 rfl infoR ?_))
        refine HC.out.mono ?_
        rintro e w2 ⟨rfl, hw2⟩
        have HO2 := Lib.hid (HO1.out.below hw2)
        have HA2 := Lib.hid (show ∀ r ∈ l, OwnA (B + 1) r w2 from fun r hr => (HA1.out r hr).below hw2)
        have HB2 := Lib.hid (HB1.out.trans (hw2.mono HB1.out.size))
        have HM2 := Lib.hid (HM1.out.below hw2)
        clear hw2 HC R0 HR HO1 HA1 HB1 HM1
        go_wp2
        go_roundg (l.length - (j + 1))
        case measure => omega
        case rel => exact ⟨i, j + 1, by omega, rfl, by go_num, d, HK1.out, HO2.out, HA2.out, HB2.out, HM2.out⟩
    · obtain rfl : j = l.length := by omega
      have hij := HK.out.lt
      have hdl := HK.out.len
      have hlt' : ¬ ((l.length : Int) < (l.length : Int)) := by omega
      have hid : i ≤ d.length := by omega
      have hlk : (d.take i).length = i := by rw [List.length_take]; omega
      have hO1 : KAt KR B l.length (d.take i) wr := HO.out.cut (by rw [hlk]; omega) fun k a hk => by
        have hk' : k < i := by have := (List.getElem?_eq_some_iff.1 hk).1; omega
        rwa [List.getElem?_take_of_lt hk'] at hk
      have hth : ∀ t, t < (l.length - i) * 32 → (wr.cell? ⟨B, i * 32 + t, none⟩).isSome = true ∧ wr.frozen? ⟨B, i * 32 + t, none⟩ = false := fun t ht => by
        have := HO.out.there (i := i + t / 32) (by omega) (t % 32) (by show t % 32 < 32; omega)
        rwa [show (i + t / 32) * KR.n + t % 32 = i * 32 + t by show (i + t / 32) * 32 + t % 32 = _; omega] at this
      have hcl := run_clear_rules wr (ty := 0) B (i * 32) (l.length - i) (l.length - i) (by omega) (fun t ht => (hth t ht).1) (fun t ht => (hth t ht).2)
      obtain ⟨vs, hcl⟩ := hcl
      have hcl' : ∀ ty, (Builtin.clear_ #[27] ty #[.slice (some ⟨B, i * 32, none⟩) (l.length - i) (l.length - i)]).run Tryz.prog wr = .ok (.tuple #[]) (wr.setCells B (i * 32) vs) := fun ty => hcl
      have HO2 := Lib.hid (show KAt KR B l.length (d.take i) (wr.setCells B (i * 32) vs) from by have := hO1.wipe vs; rwa [hlk] at this)
      have HA2 := Lib.hid (show ∀ r ∈ l, OwnA (B + 1) r (wr.setCells B (i * 32) vs) from fun r hr => KOwns.other (HA.out r hr) fun k hk _ => heap_stM_other (by omega) _ _ _)
      have HB2 := Lib.hid (below_stM HB.out HB.out.size hB vs (o := i * 32))
      have HD := Lib.hid HK.out.done
      have HLK := Lib.hid hlk
      clear hO1 hcl HO HA HB HM hth hlk
      go_wp2
      go_ret
      refine ⟨_, rfl, ?_, fun y hy => ?_, HB2.out⟩
      · have := KAt.owns okR HO2.out hB
        rw [HLK.out] at this
        rw [← HD.out]
        exact this
      · exact (HA2.out y (List.mem_filter.1 hy).1).mono (by omega)
set_option maxHeartbeats 1000000 in
theorem rdelete_any (g : Nat) (cb : Array Value) (q : Rm → Bool) (eg : ∀ args w, (callFunc g args).run Tryz.prog w = .ok (.enter g args) w) (B Bm : Nat) (m : Mm) (l : List Rm) (hlen : l.length ≤ 100000) (hw : WfRL l) (w0 w : World) (hne : Bm ≠ B)
    (hl : CpS w0.heap.size w0 B l.length l w) (hpa : PredA g cb q Bm m) (hbm : Blk Bm (mca m) 40 w) (ht : Tab w0) (hz : 0 < w0.heap.size) :
    Calls Tryz.prog 110 #[.slice (some ⟨B, 0, none⟩) l.length l.length, .func (.func g) #[] cb] w (DelR w0 (l.filter fun c => !q c)) := by
  rcases kidx_cases q l with ⟨e, h⟩ | ⟨i, x, e, hi, h1, h2⟩
  · have hE := (Env.start ht hz).predK w hl.2.2.1
    have HI := Lib.hid (rindex_any g cb q eg (some ⟨B, 0, none⟩) l.length l (by omega) hw w (hl.lies).1 (hpa.pred hbm hE.1 hE.2))
    rw [e] at HI
    have HF := Lib.hid (show l.filter (fun c => !q c) = l from List.filter_eq_self.2 fun x hx => by rw [h x hx]; rfl)
    have HL := Lib.hid hl
    rw [HF.out]
    clear hl hpa hw hbm ht e h hE
    go_enter Tryz.func110, Tryz.ntmps110
    go_wp2_with (go_at_call 133; refine HI.out.mono ?_; rintro e w1 ⟨rfl, hw1⟩)
    go_ret
    have hc := HL.out.below hw1
    exact ⟨_, rfl, KAt.owns okR hc.1 hc.2.2.2, fun y hy => (hc.2.1 y hy).mono (by have := hc.2.2.2; omega), hc.2.2.1⟩
  · exact rdelete_some g cb q eg B Bm m l hlen hw w0 w hne hl hpa hbm ht hz i x e hi h1 h2
end Go.Proofs.YtomnpfbebimpkaaGreatDoor

/-
  The walk of add of package mods.
-/
namespace Go.Proofs.YtomnpfbebimpkaaGreatDoor
set_option maxRecDepth 20000
open Go.RowKit

/-- slices of rules, as elements -/
abbrev KV : Kd (Option Addr × Nat × Nat) := ⟨27, 186, 1, 24, fun x => [.slice x.1 x.2.1 x.2.2]⟩
theorem okV : KV.Ok where
  pos := by decide
  len := fun _ => rfl
  one := fun a u hu => by
    simp only [List.mem_cons, List.not_mem_nil, or_false] at hu
    rw [hu]; rfl
  under := Tryz.underlying186
  info := infoOf (by kernel_rfl) (by kernel_rfl) (by kernel_rfl)
  small := by decide
  room1 := by decide
theorem zeroV : ((Tryz.prog.info? 27).bind (·.zero)).map (·.cells) = some #[Value.slice none 0 0] := by kernel_rfl
theorem fillV' (p1 : Option Addr) (n1 c1 : Nat) (p2 : Option Addr) (n2 c2 : Nat) : Instr.fill (fun i' => some (i' * 1, 1)) ((Array.range (2 * 1)).map ((#[Value.slice none 0 0] : Array Value)[· % (#[Value.slice none 0 0] : Array Value).size]!)) [(0, .slice p1 n1 c1), (1, .slice p2 n2 c2)] = some #[.slice p1 n1 c1, .slice p2 n2 c2] := by kernel_rfl
theorem kbuildV2 {ops : Array Oper} {rest : List Oper} {o : Oper} {a : Act} {w : World} {Q : Exit → Act → World → Prop} (hg : o.guard = none) (x y : Operand) (ho : o.op = .buildSlice 186 2 #[(0, x), (1, y)])
    (p1 : Option Addr) (n1 c1 : Nat) (p2 : Option Addr) (n2 c2 : Nat) (hx : a.eval x = .slice p1 n1 c1) (hy : a.eval y = .slice p2 n2 c2)
    (h : wpList Tryz.prog ops Q rest (a.put o.dst (.slice (some ⟨w.heap.size, 0, none⟩) 2 2)) (w.alloc (.cells #[.slice p1 n1 c1, .slice p2 n2 c2] KV.T))) : wpList Tryz.prog ops Q (o :: rest) a w :=
  kbuild KV okV 2 #[.slice none 0 0] zeroV hg _ ho [(0, .slice p1 n1 c1), (1, .slice p2 n2 c2)] (by simp [hx, hy]) #[.slice p1 n1 c1, .slice p2 n2 c2] (by decide) (by decide) (fillV' p1 n1 c1 p2 n2 c2) h
set_option maxHeartbeats 1000000 in
theorem fn50_any (n : Rm) (B : Nat) (r : Rm) (w : World) (hB : Blk B (rca n) 88 w) :
    Calls Tryz.prog 134 #[.agg (rca r), .pointer (some ⟨B, 0, none⟩)] w fun e w' => e = .returned (.bool (keyB r.u n.u)) ∧ Below w.heap.size w w' := by
  have RB := Lib.hid (hB.below (below1 w (.cells (rca r) 88)))
  have RR := Lib.hid (Blk.new w (rca r) 88)
  have HK := Lib.hid (key_any r n (w.alloc (.cells (rca r) 88)))
  have HB := Lib.hid (below1 w (.cells (rca r) 88))
  clear hB
  generalize keyB r.u n.u = y at *
  go_enter Tryz.func134, Tryz.ntmps134
  go_wp2_with (first
    | (refine wpList_load_row rfl 88 (.tmp 2) rfl w.heap.size rfl 88 (rca r) (0, 0) _ RR.out Tryz.underlying88 rfl infoR ?_)
    | (refine wpList_load_row rfl 88 (.tmp 1) rfl B rfl 88 (rca n) (0, 0) _ RB.out Tryz.underlying88 rfl infoR ?_)
    | (go_at_call 135; refine HK.out.mono ?_; rintro e w1 ⟨rfl, hw1⟩))
  go_ret
  exact ⟨rfl, HB.out.trans (hw1.mono HB.out.size)⟩
set_option maxHeartbeats 1000000 in
theorem fn53_any (n : Rm) (B : Nat) (r : Rm) (hn : Wf n.u.m) (hr : Wf r.u.m) (w : World) (hB : Blk B (rca n) 88 w) (ht : Tab w) (hz : 0 < w.heap.size) :
    Calls Tryz.prog 137 #[.agg (rca r), .pointer (some ⟨B, 0, none⟩)] w fun e w' => e = .returned (.bool (!keyB r.u n.u && ovB r.u n.u)) ∧ Below w.heap.size w w' := by
  have RB := Lib.hid (hB.below (below1 w (.cells (rca r) 88)))
  have RR := Lib.hid (Blk.new w (rca r) 88)
  have HE := Lib.hid ((Env.start ht hz).alloc (.cells (rca r) 88))
  have HK := Lib.hid (key_any r n (w.alloc (.cells (rca r) 88)))
  have HV := Lib.hid (fun (W : World) (hb : Env w W) => overlap_any r n hr hn W hb.tab hb.lt)
  clear hB ht hn hr
  generalize ovB r.u n.u = y at *
  cases hk : keyB r.u n.u
  · rw [hk] at HK
    go_enter Tryz.func137, Tryz.ntmps137
    go_wp2_with (first
      | (refine wpList_load_row rfl 88 (.tmp 2) rfl w.heap.size rfl 88 (rca r) (0, 0) _ RR.out Tryz.underlying88 rfl infoR ?_)
      | (refine wpList_load_row rfl 88 (.tmp 1) rfl B rfl 88 (rca n) (0, 0) _ RB.out Tryz.underlying88 rfl infoR ?_)
      | (go_at_call 135; refine HK.out.mono ?_; rintro e w1 ⟨rfl, hw1⟩; refine Hid.out ?_))
    have RB1 := Lib.hid (RB.out.below hw1)
    have RR1 := Lib.hid (RR.out.below hw1)
    have HE1 := Lib.hid (HE.out.below hw1)
    have HV1 := Lib.hid (HV.out w1 HE1.out)
    clear hw1 RB RR HE HK HV
    refine Lib.hid ?_
    go_wp2_with (first
      | (refine loadRowG rfl 88 (.tmp 2) rfl w.heap.size rfl 88 (rca r) (0, 0) RR1.out Tryz.underlying88 rfl infoR ?_)
      | (refine loadRowG rfl 88 (.tmp 1) rfl B rfl 88 (rca n) (0, 0) RB1.out Tryz.underlying88 rfl infoR ?_)
      | (go_at_call 138; refine HV1.out.mono ?_; rintro e w2 ⟨rfl, hw2⟩))
    go_ret
    exact ⟨rfl, (HE1.out.below hw2).kept⟩
  · rw [hk] at HK
    go_enter Tryz.func137, Tryz.ntmps137
    go_wp2_with (first
      | (refine wpList_load_row rfl 88 (.tmp 2) rfl w.heap.size rfl 88 (rca r) (0, 0) _ RR.out Tryz.underlying88 rfl infoR ?_)
      | (refine wpList_load_row rfl 88 (.tmp 1) rfl B rfl 88 (rca n) (0, 0) _ RB.out Tryz.underlying88 rfl infoR ?_)
      | (go_at_call 135; refine HK.out.mono ?_; rintro e w1 ⟨rfl, hw1⟩))
    go_ret
    exact ⟨rfl, (HE.out.below hw1).kept⟩
theorem en50 : ∀ args w, (callFunc 134 args).run Tryz.prog w = .ok (.enter 134 args) w := enters_of Tryz.func134 (by kernel_rfl) rfl
theorem en53 : ∀ args w, (callFunc 137 args).run Tryz.prog w = .ok (.enter 137 args) w := enters_of Tryz.func137 (by kernel_rfl) rfl
/-- the two conditions of add -/
def qKey (n : Ru) (r : Rm) : Bool := keyB r.u n
def qOv (n : Ru) (r : Rm) : Bool := !keyB r.u n && ovB r.u n
theorem pred50 {n : Rm} {B : Nat} {w : World} (hB : Blk B (rca n) 88 w) : KPred agR wfr 134 #[.pointer (some ⟨B, 0, none⟩)] (qKey n.u) w := fun W hb r _ => fn50_any n B r W (hB.below hb)
theorem pred53 {n : Rm} {B : Nat} {w : World} (hn : Wf n.u.m) (hB : Blk B (rca n) 88 w) (ht : Tab w) (hz : 0 < w.heap.size) : KPred agR wfr 137 #[.pointer (some ⟨B, 0, none⟩)] (qOv n.u) w := fun W hb r hr =>
  fn53_any n B r hn hr.m W (hB.below hb) ((Env.start ht hz).predK W hb).1 ((Env.start ht hz).predK W hb).2
/-- what Apply gives -/
def ApRet (w : World) (us : List Ru) (m : Mu) (room : Int) (e : Ending) (w' : World) : Prop := ∃ v L, e = .returned (.tuple #[v, .int .i64 (applyE us m room)]) ∧ L.map (·.u) = applyV us m room ∧ InS w v L w'
theorem ApRet.no {w w' : World} {us : List Ru} {m : Mu} {room : Int} {k : Int} (h : applyE us m room = k) (hk : k ≠ 0) (hb : Below w.heap.size w w') : ApRet w us m room (.returned (.tuple #[.slice none 0 0, .int .i64 k])) w' :=
  ⟨_, [], by rw [h], by unfold applyV; rw [if_neg (by rw [h]; exact hk)]; rfl, KOwns.nil _ _, fun y hy => (by cases hy), hb⟩
theorem ApRet.tab {w w' : World} {us : List Ru} {m : Mu} {room : Int} {g : Nat} {L : List Rm} (h : applyE us m room = 0) (hL : L.map (·.u) = applyL us m) (hc : CpS w.heap.size w g L.length L w') : ApRet w us m room (.returned (.tuple #[.slice (some ⟨g, 0, none⟩) L.length L.length, .int .i64 0])) w' :=
  ⟨_, L, by rw [h], by unfold applyV; rw [if_pos h, hL], KAt.owns okR hc.1 hc.2.2.2, fun y hy => (hc.2.1 y hy).mono (by have := hc.2.2.2; omega), hc.2.2.1⟩
theorem pw_all {α : Type} {R : α → α → Prop} (hs : ∀ a b, R a b → R b a) (hr : ∀ a, R a a) : ∀ {l : List α}, l.Pairwise R → ∀ a ∈ l, ∀ b ∈ l, R a b
  | [], _, a, ha, _, _ => by cases ha
  | x :: l, h, a, ha, b, hb => by
    have h' := List.pairwise_cons.1 h
    rcases List.mem_cons.1 ha with e1 | ha2
    · rcases List.mem_cons.1 hb with e2 | hb2
      · rw [e1, e2]; exact hr _
      · rw [e1]; exact h'.1 b hb2
    · rcases List.mem_cons.1 hb with e2 | hb2
      · rw [e2]; exact hs _ _ (h'.1 a ha2)
      · exact pw_all hs hr h'.2 a ha2 b hb2
/-- in a table one rule has a key -/
theorem key_one {us : List Ru} {n u v : Ru} (ht : tabU us = true) (hu : u ∈ us) (hv : v ∈ us) (h1 : keyB u n = true) (h2 : keyB v n = true) : u = v := by
  have hs := ((tabU_iff us).1 ht).2
  have key : ∀ a ∈ us, ∀ b ∈ us, (keyB a n = true → keyB b n = true → a = b) := by
    refine pw_all (R := fun a b => keyB a n = true → keyB b n = true → a = b) (fun a b h x y => (h y x).symm) (fun _ _ _ => rfl) (List.Pairwise.imp ?_ hs)
    intro a b hab ha hb
    exfalso
    have e1 := (key_iff a n).1 ha
    have e2 := (key_iff b n).1 hb
    have n2 := rOrd_ordd.neg b n
    have n1 := rOrd_ordd.neg a n
    have t2 := rOrd_ordd.trans b n a (by omega) (by omega)
    have n3 := rOrd_ordd.neg a b
    omega
  exact key u hu v hv h1 h2
theorem addE {us : List Ru} {m : Mu} {room : Int} (hk : m.kind = 1) (ht : tabU us = true) (hs : sndM m = true) : applyE us m room =
    (if us.any (fun u => keyB u (newU m) && (u.owner != m.owner)) then 7 else if m.chk && us.any (fun u => !keyB u (newU m) && ovB u (newU m)) then 6 else if !us.any (fun u => keyB u (newU m)) && decide (room ≤ (us.length : Int)) then 3 else 0) := by
  unfold applyE
  rw [if_neg (by simp [ht, hs]), if_pos hk]
/-- whose key is there -/
theorem any7_no {l : List Rm} {m : Mu} (h : ∀ x ∈ l, qKey (newU m) x = false) : (l.map (·.u)).any (fun u => keyB u (newU m) && (u.owner != m.owner)) = false ∧ (l.map (·.u)).any (fun u => keyB u (newU m)) = false := by
  constructor
  · rw [List.any_eq_false]
    intro u hu
    obtain ⟨x, hx, rfl⟩ := List.mem_map.1 hu
    have := h x hx
    unfold qKey at this
    rw [this]; simp
  · rw [List.any_eq_false]
    intro u hu
    obtain ⟨x, hx, rfl⟩ := List.mem_map.1 hu
    have := h x hx
    unfold qKey at this
    rw [this]; simp
theorem any7_yes {l : List Rm} {m : Mu} (ht : tabU (l.map (·.u)) = true) {x : Rm} (hx : x ∈ l) (h : qKey (newU m) x = true) : (l.map (·.u)).any (fun u => keyB u (newU m) && (u.owner != m.owner)) = (x.u.owner != m.owner) ∧ (l.map (·.u)).any (fun u => keyB u (newU m)) = true := by
  have hxm : x.u ∈ l.map (·.u) := List.mem_map_of_mem hx
  unfold qKey at h
  constructor
  · cases e : (x.u.owner != m.owner)
    · rw [List.any_eq_false]
      intro u hu hq
      rw [Bool.and_eq_true] at hq
      have := key_one ht hu hxm hq.1 h
      rw [this, e] at hq
      cases hq.2
    · rw [List.any_eq_true]
      exact ⟨x.u, hxm, by rw [h, e]; rfl⟩
  · rw [List.any_eq_true]
    exact ⟨x.u, hxm, h⟩
theorem any6 (l : List Rm) (m : Mu) : (l.map (·.u)).any (fun u => !keyB u (newU m) && ovB u (newU m)) = l.any (qOv (newU m)) := by
  rw [List.any_map]
  rfl
/-- add's end: the new rule behind the others, sorted -/
def AddS (w : World) (v : Value) (l : List Rm) (m : Mm) (Bn : Nat) (W : World) : Prop := RLies v l W ∧ InM m W ∧ Blk w.heap.size (mca m) 40 W ∧ Blk Bn (rca (newR m)) 88 W ∧ Env w W
theorem AddS.below {w : World} {v : Value} {l : List Rm} {m : Mm} {Bn : Nat} {W W' : World} (hb : Below W.heap.size W W') (h : AddS w v l m Bn W) : AddS w v l m Bn W' := ⟨h.1.below hb, h.2.1.below hb, h.2.2.1.below hb, h.2.2.2.1.below hb, h.2.2.2.2.below hb⟩
end Go.Proofs.YtomnpfbebimpkaaGreatDoor

/-
  The walk of add of package mods.
-/
namespace Go.Proofs.YtomnpfbebimpkaaGreatDoor
set_option maxRecDepth 20000
open Go.RowKit

set_option maxHeartbeats 4000000 in
theorem add_any (v : Value) (l : List Rm) (hlen : l.length ≤ 50000) (hwl : WfRL l) (m : Mm) (hw : WfM m.u) (hk : m.u.kind = 1) (hs : sndM m.u = true) (htab : tabU (l.map (·.u)) = true) (room : Int) (w : World) (hl : RLies v l w) (ha : InM m w) (ht : Tab w) (hz : 0 < w.heap.size) :
    Calls Tryz.prog 108 #[v, .agg (mca m), .int .i64 room] w (ApRet w (l.map (·.u)) m.u room) := by
  obtain ⟨p, cap, rfl⟩ := hl.1.form
  have R0 := Lib.hid (Blk.new w (mca m) 40)
  have HE := Lib.hid ((Env.start ht hz).alloc (.cells (mca m) 40))
  have HN := Lib.hid (ruleof_any m (w.alloc (.cells (mca m) 40)))
  have HAE := Lib.hid (addE (room := room) hk htab hs)
  have HL := Lib.hid hl
  have HA := Lib.hid ha
  have HWL := Lib.hid hwl
  have HW := Lib.hid hw
  have HTB := Lib.hid htab
  have HK1 := Lib.hid hk
  obtain ⟨us, hus⟩ : ∃ us, us = l.map (·.u) := ⟨_, rfl⟩
  rw [← hus]
  rw [← hus] at HAE
  have HUS := Lib.hid hus
  have HUL := Lib.hid (show us.length = l.length by rw [hus]; simp)
  clear hl ha hwl hw ht hs htab hk hus
  go_enter Tryz.func108, Tryz.ntmps108
  go_upto_region 2 with (first
    | (refine wpList_load_row rfl 40 _ rfl w.heap.size rfl 40 (mca m) (0, 0) _ R0.out Tryz.underlying40 rfl infoM ?_)
    | (go_at_call 128; refine HN.out.mono ?_; rintro e w1 ⟨rfl, hw1⟩)
    | (refine wpList_store_row rfl 88 _ _ rfl w1.heap.size (rca (newR m)) rfl rfl 88 _ (heap_alloc_new _ _) (by kernel_rfl) rfl (rca_one _) ?_; rw [World.setRow_alloc_new]))
  have HE1 := Lib.hid ((HE.out.below hw1).alloc (.cells (rca (newR m)) 88))
  have HS := Lib.hid (show AddS w (.slice p l.length cap) l m w1.heap.size (w1.alloc (.cells (rca (newR m)) 88)) from
    ⟨HL.out.below HE1.out.kept, HA.out.below HE1.out.kept, (R0.out.below hw1).old _, Blk.new _ _ _, HE1.out⟩)
  clear hw1 HE R0 HN HE1
  generalize w1.alloc (.cells (rca (newR m)) 88) = W2 at *
  generalize w1.heap.size = Bn at *
  have HI := Lib.hid (rindex_any 134 #[.pointer (some ⟨Bn, 0, none⟩)] (qKey (newU m.u)) en50 p cap l (by omega) HWL.out W2 HS.out.1.1 (pred50 HS.out.2.2.2.1))
  rcases kidx_cases (qKey (newU m.u)) l with ⟨e0, h0⟩ | ⟨i, x, e0, hx, h1, h2⟩
  · rw [e0] at HI
    obtain ⟨a7, a1⟩ := any7_no h0
    rw [← HUS.out] at a7 a1
    have A7 := Lib.hid a7
    have A1 := Lib.hid a1
    clear e0 h0 a7 a1
    go_upto_region 3 with (go_at_call 133; refine HI.out.mono ?_; rintro e w3 ⟨rfl, hw3⟩)
    have HS3 := Lib.hid (AddS.below hw3 HS.out)
    clear hw3 HI HS
    go_quiet (fail)
    have HS4 := Lib.hid (AddS.below (belowDrewN w3 nq) HS3.out)
    clear HS3
    generalize w3.drewN nq = W4 at *
    have kC := HS4.out.2.2.1.cellsM.2.2.2.2.2.2.2
    cases hch : m.u.chk
    · rw [hch] at kC
      have HCH := Lib.hid hch
      by_cases hro : room ≤ (l.length : Int)
      · have hrd : decide (room ≤ (us.length : Int)) = true := decide_eq_true (by have := HUL.out; omega)
        have HR := Lib.hid (show applyE us m.u room = 3 by rw [HAE.out, A7.out, A1.out, hrd]; simp [HCH.out])
        have HB5 := Lib.hid HS4.out.2.2.2.2.kept
        clear HS4
        go_wp2_with fail
        go_ret2
        exact ApRet.no HR.out (by decide) HB5.out
      have hrd : decide (room ≤ (us.length : Int)) = false := decide_eq_false (by have := HUL.out; omega)
      have HR := Lib.hid (show applyE us m.u room = 0 by rw [HAE.out, A7.out, A1.out, hrd]; simp [HCH.out])
      have RR := Lib.hid HS4.out.2.2.2.1
      go_wp2_with (first
        | (refine wpList_load_row rfl 88 _ rfl Bn rfl 88 (rca (newR m)) (0, 0) _ RR.out Tryz.underlying88 rfl infoR ?_)
        | (refine kbuildOne KR okR #[Value.int IntKind.u64 0, Value.int IntKind.u64 0, Value.int IntKind.u64 0, Value.int IntKind.u64 0, Value.int IntKind.u64 0, Value.int IntKind.u64 0, Value.int IntKind.u64 0, Value.int IntKind.u64 0, Value.int IntKind.u64 0, Value.int IntKind.u64 0, Value.int IntKind.u64 0, Value.int IntKind.u64 0, Value.int IntKind.u64 0, Value.int IntKind.u64 0, Value.int IntKind.u64 0, Value.int IntKind.u64 0, Value.int IntKind.u64 0, Value.int IntKind.u64 0, Value.int IntKind.u64 0, Value.int IntKind.u64 0, Value.int IntKind.u64 0, Value.int IntKind.u64 0, Value.int IntKind.u64 0, Value.int IntKind.u64 0, Value.int IntKind.i64 0, Value.slice none 0 0, Value.int IntKind.i64 0, Value.int IntKind.i64 0, Value.int IntKind.i64 0, Value.int IntKind.i64 0, Value.int IntKind.i64 0, Value.int IntKind.i64 0] zeroR rfl (.tmp 43) rfl (rca (newR m)) rfl (by decide) (fillOne (newR m)) ?_; refine Hid.out ?_))
      have RA := Lib.hid (Blk.new W4 (rca (newR m)) KR.T)
      have HS8 := Lib.hid (AddS.below (below1 _ (.cells (rca (newR m)) KR.T)) HS4.out)
      clear RR HS4
      generalize W4.alloc (.cells (rca (newR m)) KR.T) = Wa at *
      generalize W4.heap.size = b1 at *
      refine Lib.hid ?_
      go_wp2_with (refine kbuildV2 rfl (.tmp 42) (.tmp 44) rfl p l.length cap (some ⟨b1, 0, none⟩) 1 1 rfl rfl ?_; refine Hid.out ?_)
      have HS9 := Lib.hid (AddS.below (below1 _ (.cells #[.slice p l.length cap, .slice (some ⟨b1, 0, none⟩) 1 1] KV.T)) HS8.out)
      have HK2 := Lib.hid (show KLies KR (.slice (some ⟨b1, 0, none⟩) 1 1) [newR m] (Wa.alloc (.cells #[.slice p l.length cap, .slice (some ⟨b1, 0, none⟩) 1 1] KV.T)) from Blk.klies (l := [newR m]) (RA.out.old _) okR rfl)
      have HBV := Lib.hid (Blk.new Wa #[.slice p l.length cap, .slice (some ⟨b1, 0, none⟩) 1 1] KV.T)
      clear RA HS8
      generalize Wa.alloc (.cells #[.slice p l.length cap, .slice (some ⟨b1, 0, none⟩) 1 1] KV.T) = Wb at *
      generalize Wa.heap.size = b2 at *
      have HCC := Lib.hid (concat_any b2 (.slice p l.length cap) (.slice (some ⟨b1, 0, none⟩) 1 1) l [newR m] (by simp) (by simp; omega) Wb HBV.out HS9.out.1.1 HK2.out)
      clear HBV HK2
      refine Lib.hid ?_
      go_wp2_with (go_at_call 140; refine HCC.out.mono ?_; rintro e w5 ⟨cv, rfl, hoC, hw5⟩; refine Hid.out ?_)
      have HS5 := Lib.hid (AddS.below hw5 HS9.out)
      have HRL := Lib.hid (show RLies cv (l ++ [newR m]) w5 from ⟨hoC.lies okR, fun r hr => by
        rcases List.mem_append.1 hr with hr | hr
        · exact HS5.out.1.2 r hr
        · simp only [List.mem_cons, List.not_mem_nil, or_false] at hr
          rw [hr]
          exact HS5.out.2.1.new⟩)
      have HSo := Lib.hid (rsort_any cv (l ++ [newR m]) (by simp; omega) (fun r hr => by
        rcases List.mem_append.1 hr with hr | hr
        · exact HWL.out r hr
        · simp only [List.mem_cons, List.not_mem_nil, or_false] at hr
          rw [hr]
          exact HW.out.new) w5 HRL.out HS5.out.2.2.2.2.tab HS5.out.2.2.2.2.lt)
      clear hoC hw5 HCC HS9 HRL
      refine Lib.hid ?_
      go_wp2_with (go_at_call 139; refine HSo.out.mono ?_; rintro e w6 ⟨g, L, rfl, hu, hc⟩)
      go_ret2
      have hE5 := HS5.out.2.2.2.2.kept
      exact ApRet.tab HR.out (by rw [hu]; unfold applyL; rw [if_pos HK1.out, HUS.out, List.map_append]; rfl) ⟨hc.1, hc.2.1, hE5.trans (hc.2.2.1.mono hE5.size), Nat.le_trans hE5.size hc.2.2.2⟩
    · rw [hch] at kC
      have HCH := Lib.hid hch
      have HCo := Lib.hid (rcontains_any 137 #[.pointer (some ⟨Bn, 0, none⟩)] (qOv (newU m.u)) en53 (.slice p l.length cap) l (by omega) HWL.out W4 HS4.out.1.1 (pred53 (n := newR m) HW.out.new.m HS4.out.2.2.2.1 HS4.out.2.2.2.2.tab HS4.out.2.2.2.2.lt))
      have hany := any6 l m.u
      rw [← HUS.out] at hany
      cases ha6 : l.any (qOv (newU m.u))
      · rw [ha6] at HCo hany
        have HAN := Lib.hid hany
        clear hany
        go_upto_region 7 with (go_at_call 136; refine HCo.out.mono ?_; rintro e w5 ⟨rfl, hw5⟩)
        have HS5a := Lib.hid (AddS.below hw5 HS4.out)
        clear hw5 HCo HS4 kC
        generalize w5 = W5 at *
        by_cases hro : room ≤ (l.length : Int)
        · have hrd : decide (room ≤ (us.length : Int)) = true := decide_eq_true (by have := HUL.out; omega)
          have HR := Lib.hid (show applyE us m.u room = 3 by rw [HAE.out, A7.out, A1.out, hrd]; simp [HCH.out, HAN.out])
          have HB5 := Lib.hid HS5a.out.2.2.2.2.kept
          clear HS5a
          go_wp2_with fail
          go_ret2
          exact ApRet.no HR.out (by decide) HB5.out
        have hrd : decide (room ≤ (us.length : Int)) = false := decide_eq_false (by have := HUL.out; omega)
        have HR := Lib.hid (show applyE us m.u room = 0 by rw [HAE.out, A7.out, A1.out, hrd]; simp [HCH.out, HAN.out])
        have RR := Lib.hid HS5a.out.2.2.2.1
        go_wp2_with (first
          | (refine wpList_load_row rfl 88 _ rfl Bn rfl 88 (rca (newR m)) (0, 0) _ RR.out Tryz.underlying88 rfl infoR ?_)
          | (refine kbuildOne KR okR #[Value.int IntKind.u64 0, Value.int IntKind.u64 0, Value.int IntKind.u64 0, Value.int IntKind.u64 0, Value.int IntKind.u64 0, Value.int IntKind.u64 0, Value.int IntKind.u64 0, Value.int IntKind.u64 0, Value.int IntKind.u64 0, Value.int IntKind.u64 0, Value.int IntKind.u64 0, Value.int IntKind.u64 0, Value.int IntKind.u64 0, Value.int IntKind.u64 0, Value.int IntKind.u64 0, Value.int IntKind.u64 0, Value.int IntKind.u64 0, Value.int IntKind.u64 0, Value.int IntKind.u64 0, Value.int IntKind.u64 0, Value.int IntKind.u64 0, Value.int IntKind.u64 0, Value.int IntKind.u64 0, Value.int IntKind.u64 0, Value.int IntKind.i64 0, Value.slice none 0 0, Value.int IntKind.i64 0, Value.int IntKind.i64 0, Value.int IntKind.i64 0, Value.int IntKind.i64 0, Value.int IntKind.i64 0, Value.int IntKind.i64 0] zeroR rfl (.tmp 43) rfl (rca (newR m)) rfl (by decide) (fillOne (newR m)) ?_; refine Hid.out ?_))
        have RA := Lib.hid (Blk.new W5 (rca (newR m)) KR.T)
        have HS8 := Lib.hid (AddS.below (below1 _ (.cells (rca (newR m)) KR.T)) HS5a.out)
        clear RR HS5a
        generalize W5.alloc (.cells (rca (newR m)) KR.T) = Wa at *
        generalize W5.heap.size = b1 at *
        refine Lib.hid ?_
        go_wp2_with (refine kbuildV2 rfl (.tmp 42) (.tmp 44) rfl p l.length cap (some ⟨b1, 0, none⟩) 1 1 rfl rfl ?_; refine Hid.out ?_)
        have HS9 := Lib.hid (AddS.below (below1 _ (.cells #[.slice p l.length cap, .slice (some ⟨b1, 0, none⟩) 1 1] KV.T)) HS8.out)
        have HK2 := Lib.hid (show KLies KR (.slice (some ⟨b1, 0, none⟩) 1 1) [newR m] (Wa.alloc (.cells #[.slice p l.length cap, .slice (some ⟨b1, 0, none⟩) 1 1] KV.T)) from Blk.klies (l := [newR m]) (RA.out.old _) okR rfl)
        have HBV := Lib.hid (Blk.new Wa #[.slice p l.length cap, .slice (some ⟨b1, 0, none⟩) 1 1] KV.T)
        clear RA HS8
        generalize Wa.alloc (.cells #[.slice p l.length cap, .slice (some ⟨b1, 0, none⟩) 1 1] KV.T) = Wb at *
        generalize Wa.heap.size = b2 at *
        have HCC := Lib.hid (concat_any b2 (.slice p l.length cap) (.slice (some ⟨b1, 0, none⟩) 1 1) l [newR m] (by simp) (by simp; omega) Wb HBV.out HS9.out.1.1 HK2.out)
        clear HBV HK2
        refine Lib.hid ?_
        go_wp2_with (go_at_call 140; refine HCC.out.mono ?_; rintro e w5 ⟨cv, rfl, hoC, hw5⟩; refine Hid.out ?_)
        have HS5 := Lib.hid (AddS.below hw5 HS9.out)
        have HRL := Lib.hid (show RLies cv (l ++ [newR m]) w5 from ⟨hoC.lies okR, fun r hr => by
          rcases List.mem_append.1 hr with hr | hr
          · exact HS5.out.1.2 r hr
          · simp only [List.mem_cons, List.not_mem_nil, or_false] at hr
            rw [hr]
            exact HS5.out.2.1.new⟩)
        have HSo := Lib.hid (rsort_any cv (l ++ [newR m]) (by simp; omega) (fun r hr => by
          rcases List.mem_append.1 hr with hr | hr
          · exact HWL.out r hr
          · simp only [List.mem_cons, List.not_mem_nil, or_false] at hr
            rw [hr]
            exact HW.out.new) w5 HRL.out HS5.out.2.2.2.2.tab HS5.out.2.2.2.2.lt)
        clear hoC hw5 HCC HS9 HRL
        refine Lib.hid ?_
        go_wp2_with (go_at_call 139; refine HSo.out.mono ?_; rintro e w6 ⟨g, L, rfl, hu, hc⟩)
        go_ret2
        have hE5 := HS5.out.2.2.2.2.kept
        exact ApRet.tab HR.out (by rw [hu]; unfold applyL; rw [if_pos HK1.out, HUS.out, List.map_append]; rfl) ⟨hc.1, hc.2.1, hE5.trans (hc.2.2.1.mono hE5.size), Nat.le_trans hE5.size hc.2.2.2⟩
      · rw [ha6] at HCo hany
        have HR := Lib.hid (show applyE us m.u room = 6 by rw [HAE.out, A7.out, hch, hany]; rfl)
        clear hany
        go_wp2_with (go_at_call 136; refine HCo.out.mono ?_; rintro e w5 ⟨rfl, hw5⟩)
        go_ret2
        exact ApRet.no HR.out (by decide) (HS4.out.2.2.2.2.below hw5).kept
  · rw [e0] at HI
    have hil : i < l.length := (List.getElem?_eq_some_iff.1 hx).1
    have hilI : (i : Int) < (l.length : Int) := by omega
    have hi0 : ¬ ((i : Int) < 0) := by omega
    obtain ⟨a7, a1⟩ := any7_yes HTB.out (List.mem_of_getElem? hx) h1
    rw [← HUS.out] at a7 a1
    have A7 := Lib.hid a7
    have A1 := Lib.hid a1
    obtain ⟨b, o, rfl, _⟩ := HS.out.1.1.at hx
    have HX := Lib.hid hx
    clear e0 h1 h2 a7 a1 hx
    go_upto_region 3 with (go_at_call 133; refine HI.out.mono ?_; rintro e w3 ⟨rfl, hw3⟩)
    have HS3 := Lib.hid (AddS.below hw3 HS.out)
    clear hw3 HI HS
    have kO := (cellsR_mid (HS3.out.1.1.at' HX.out)).owner
    have kM := HS3.out.2.2.1.cellsM.2.2.2.2.2.2.1
    by_cases ho : x.u.owner = m.u.owner
    rotate_left
    · have hob : (x.u.owner != m.u.owner) = true := by simpa using ho
      rw [hob] at A7
      have HR := Lib.hid (show applyE us m.u room = 7 by rw [HAE.out, A7.out]; rfl)
      go_quiet (fail)
      have HB4 := Lib.hid (HS3.out.2.2.2.2.below (belowDrewN w3 nq)).kept
      clear HS3 kO kM
      generalize w3.drewN nq = W4 at *
      go_wp2_with fail
      go_ret2
      exact ApRet.no HR.out (by decide) HB4.out
    have hob : (x.u.owner != m.u.owner) = false := by simpa using ho
    rw [hob] at A7
    go_quiet (fail)
    have HS4 := Lib.hid (AddS.below (belowDrewN w3 nq) HS3.out)
    clear HS3 kO kM ho hob HX
    generalize w3.drewN nq = W4 at *
    have kC := HS4.out.2.2.1.cellsM.2.2.2.2.2.2.2
    cases hch : m.u.chk
    · rw [hch] at kC
      have HCH := Lib.hid hch
      have HR := Lib.hid (show applyE us m.u room = 0 by rw [HAE.out, A7.out, A1.out]; simp [HCH.out])
      have RR := Lib.hid HS4.out.2.2.2.1
      go_wp2_with (first
        | (refine wpList_load_row rfl 88 _ rfl Bn rfl 88 (rca (newR m)) (0, 0) _ RR.out Tryz.underlying88 rfl infoR ?_)
        | (refine kbuildOne KR okR #[Value.int IntKind.u64 0, Value.int IntKind.u64 0, Value.int IntKind.u64 0, Value.int IntKind.u64 0, Value.int IntKind.u64 0, Value.int IntKind.u64 0, Value.int IntKind.u64 0, Value.int IntKind.u64 0, Value.int IntKind.u64 0, Value.int IntKind.u64 0, Value.int IntKind.u64 0, Value.int IntKind.u64 0, Value.int IntKind.u64 0, Value.int IntKind.u64 0, Value.int IntKind.u64 0, Value.int IntKind.u64 0, Value.int IntKind.u64 0, Value.int IntKind.u64 0, Value.int IntKind.u64 0, Value.int IntKind.u64 0, Value.int IntKind.u64 0, Value.int IntKind.u64 0, Value.int IntKind.u64 0, Value.int IntKind.u64 0, Value.int IntKind.i64 0, Value.slice none 0 0, Value.int IntKind.i64 0, Value.int IntKind.i64 0, Value.int IntKind.i64 0, Value.int IntKind.i64 0, Value.int IntKind.i64 0, Value.int IntKind.i64 0] zeroR rfl (.tmp 43) rfl (rca (newR m)) rfl (by decide) (fillOne (newR m)) ?_; refine Hid.out ?_))
      have RA := Lib.hid (Blk.new W4 (rca (newR m)) KR.T)
      have HS8 := Lib.hid (AddS.below (below1 _ (.cells (rca (newR m)) KR.T)) HS4.out)
      clear RR HS4
      generalize W4.alloc (.cells (rca (newR m)) KR.T) = Wa at *
      generalize W4.heap.size = b1 at *
      refine Lib.hid ?_
      go_wp2_with (refine kbuildV2 rfl (.tmp 42) (.tmp 44) rfl (some ⟨b, o, none⟩) l.length cap (some ⟨b1, 0, none⟩) 1 1 rfl rfl ?_; refine Hid.out ?_)
      have HS9 := Lib.hid (AddS.below (below1 _ (.cells #[.slice (some ⟨b, o, none⟩) l.length cap, .slice (some ⟨b1, 0, none⟩) 1 1] KV.T)) HS8.out)
      have HK2 := Lib.hid (show KLies KR (.slice (some ⟨b1, 0, none⟩) 1 1) [newR m] (Wa.alloc (.cells #[.slice (some ⟨b, o, none⟩) l.length cap, .slice (some ⟨b1, 0, none⟩) 1 1] KV.T)) from Blk.klies (l := [newR m]) (RA.out.old _) okR rfl)
      have HBV := Lib.hid (Blk.new Wa #[.slice (some ⟨b, o, none⟩) l.length cap, .slice (some ⟨b1, 0, none⟩) 1 1] KV.T)
      clear RA HS8
      generalize Wa.alloc (.cells #[.slice (some ⟨b, o, none⟩) l.length cap, .slice (some ⟨b1, 0, none⟩) 1 1] KV.T) = Wb at *
      generalize Wa.heap.size = b2 at *
      have HCC := Lib.hid (concat_any b2 (.slice (some ⟨b, o, none⟩) l.length cap) (.slice (some ⟨b1, 0, none⟩) 1 1) l [newR m] (by simp) (by simp; omega) Wb HBV.out HS9.out.1.1 HK2.out)
      clear HBV HK2
      refine Lib.hid ?_
      go_wp2_with (go_at_call 140; refine HCC.out.mono ?_; rintro e w5 ⟨cv, rfl, hoC, hw5⟩; refine Hid.out ?_)
      have HS5 := Lib.hid (AddS.below hw5 HS9.out)
      have HRL := Lib.hid (show RLies cv (l ++ [newR m]) w5 from ⟨hoC.lies okR, fun r hr => by
        rcases List.mem_append.1 hr with hr | hr
        · exact HS5.out.1.2 r hr
        · simp only [List.mem_cons, List.not_mem_nil, or_false] at hr
          rw [hr]
          exact HS5.out.2.1.new⟩)
      have HSo := Lib.hid (rsort_any cv (l ++ [newR m]) (by simp; omega) (fun r hr => by
        rcases List.mem_append.1 hr with hr | hr
        · exact HWL.out r hr
        · simp only [List.mem_cons, List.not_mem_nil, or_false] at hr
          rw [hr]
          exact HW.out.new) w5 HRL.out HS5.out.2.2.2.2.tab HS5.out.2.2.2.2.lt)
      clear hoC hw5 HCC HS9 HRL
      refine Lib.hid ?_
      go_wp2_with (go_at_call 139; refine HSo.out.mono ?_; rintro e w6 ⟨g, L, rfl, hu, hc⟩)
      go_ret2
      have hE5 := HS5.out.2.2.2.2.kept
      exact ApRet.tab HR.out (by rw [hu]; unfold applyL; rw [if_pos HK1.out, HUS.out, List.map_append]; rfl) ⟨hc.1, hc.2.1, hE5.trans (hc.2.2.1.mono hE5.size), Nat.le_trans hE5.size hc.2.2.2⟩
    · rw [hch] at kC
      have HCH := Lib.hid hch
      have HCo := Lib.hid (rcontains_any 137 #[.pointer (some ⟨Bn, 0, none⟩)] (qOv (newU m.u)) en53 (.slice (some ⟨b, o, none⟩) l.length cap) l (by omega) HWL.out W4 HS4.out.1.1 (pred53 (n := newR m) HW.out.new.m HS4.out.2.2.2.1 HS4.out.2.2.2.2.tab HS4.out.2.2.2.2.lt))
      have hany := any6 l m.u
      rw [← HUS.out] at hany
      cases ha6 : l.any (qOv (newU m.u))
      · rw [ha6] at HCo hany
        have HAN := Lib.hid hany
        clear hany
        go_upto_region 7 with (go_at_call 136; refine HCo.out.mono ?_; rintro e w5 ⟨rfl, hw5⟩)
        have HS5a := Lib.hid (AddS.below hw5 HS4.out)
        clear hw5 HCo HS4 kC
        generalize w5 = W5 at *
        have HR := Lib.hid (show applyE us m.u room = 0 by rw [HAE.out, A7.out, A1.out]; simp [HCH.out, HAN.out])
        have RR := Lib.hid HS5a.out.2.2.2.1
        go_wp2_with (first
          | (refine wpList_load_row rfl 88 _ rfl Bn rfl 88 (rca (newR m)) (0, 0) _ RR.out Tryz.underlying88 rfl infoR ?_)
          | (refine kbuildOne KR okR #[Value.int IntKind.u64 0, Value.int IntKind.u64 0, Value.int IntKind.u64 0, Value.int IntKind.u64 0, Value.int IntKind.u64 0, Value.int IntKind.u64 0, Value.int IntKind.u64 0, Value.int IntKind.u64 0, Value.int IntKind.u64 0, Value.int IntKind.u64 0, Value.int IntKind.u64 0, Value.int IntKind.u64 0, Value.int IntKind.u64 0, Value.int IntKind.u64 0, Value.int IntKind.u64 0, Value.int IntKind.u64 0, Value.int IntKind.u64 0, Value.int IntKind.u64 0, Value.int IntKind.u64 0, Value.int IntKind.u64 0, Value.int IntKind.u64 0, Value.int IntKind.u64 0, Value.int IntKind.u64 0, Value.int IntKind.u64 0, Value.int IntKind.i64 0, Value.slice none 0 0, Value.int IntKind.i64 0, Value.int IntKind.i64 0, Value.int IntKind.i64 0, Value.int IntKind.i64 0, Value.int IntKind.i64 0, Value.int IntKind.i64 0] zeroR rfl (.tmp 43) rfl (rca (newR m)) rfl (by decide) (fillOne (newR m)) ?_; refine Hid.out ?_))
        have RA := Lib.hid (Blk.new W5 (rca (newR m)) KR.T)
        have HS8 := Lib.hid (AddS.below (below1 _ (.cells (rca (newR m)) KR.T)) HS5a.out)
        clear RR HS5a
        generalize W5.alloc (.cells (rca (newR m)) KR.T) = Wa at *
        generalize W5.heap.size = b1 at *
        refine Lib.hid ?_
        go_wp2_with (refine kbuildV2 rfl (.tmp 42) (.tmp 44) rfl (some ⟨b, o, none⟩) l.length cap (some ⟨b1, 0, none⟩) 1 1 rfl rfl ?_; refine Hid.out ?_)
        have HS9 := Lib.hid (AddS.below (below1 _ (.cells #[.slice (some ⟨b, o, none⟩) l.length cap, .slice (some ⟨b1, 0, none⟩) 1 1] KV.T)) HS8.out)
        have HK2 := Lib.hid (show KLies KR (.slice (some ⟨b1, 0, none⟩) 1 1) [newR m] (Wa.alloc (.cells #[.slice (some ⟨b, o, none⟩) l.length cap, .slice (some ⟨b1, 0, none⟩) 1 1] KV.T)) from Blk.klies (l := [newR m]) (RA.out.old _) okR rfl)
        have HBV := Lib.hid (Blk.new Wa #[.slice (some ⟨b, o, none⟩) l.length cap, .slice (some ⟨b1, 0, none⟩) 1 1] KV.T)
        clear RA HS8
        generalize Wa.alloc (.cells #[.slice (some ⟨b, o, none⟩) l.length cap, .slice (some ⟨b1, 0, none⟩) 1 1] KV.T) = Wb at *
        generalize Wa.heap.size = b2 at *
        have HCC := Lib.hid (concat_any b2 (.slice (some ⟨b, o, none⟩) l.length cap) (.slice (some ⟨b1, 0, none⟩) 1 1) l [newR m] (by simp) (by simp; omega) Wb HBV.out HS9.out.1.1 HK2.out)
        clear HBV HK2
        refine Lib.hid ?_
        go_wp2_with (go_at_call 140; refine HCC.out.mono ?_; rintro e w5 ⟨cv, rfl, hoC, hw5⟩; refine Hid.out ?_)
        have HS5 := Lib.hid (AddS.below hw5 HS9.out)
        have HRL := Lib.hid (show RLies cv (l ++ [newR m]) w5 from ⟨hoC.lies okR, fun r hr => by
          rcases List.mem_append.1 hr with hr | hr
          · exact HS5.out.1.2 r hr
          · simp only [List.mem_cons, List.not_mem_nil, or_false] at hr
            rw [hr]
            exact HS5.out.2.1.new⟩)
        have HSo := Lib.hid (rsort_any cv (l ++ [newR m]) (by simp; omega) (fun r hr => by
          rcases List.mem_append.1 hr with hr | hr
          · exact HWL.out r hr
          · simp only [List.mem_cons, List.not_mem_nil, or_false] at hr
            rw [hr]
            exact HW.out.new) w5 HRL.out HS5.out.2.2.2.2.tab HS5.out.2.2.2.2.lt)
        clear hoC hw5 HCC HS9 HRL
        refine Lib.hid ?_
        go_wp2_with (go_at_call 139; refine HSo.out.mono ?_; rintro e w6 ⟨g, L, rfl, hu, hc⟩)
        go_ret2
        have hE5 := HS5.out.2.2.2.2.kept
        exact ApRet.tab HR.out (by rw [hu]; unfold applyL; rw [if_pos HK1.out, HUS.out, List.map_append]; rfl) ⟨hc.1, hc.2.1, hE5.trans (hc.2.2.1.mono hE5.size), Nat.le_trans hE5.size hc.2.2.2⟩
      · rw [ha6] at HCo hany
        have HR := Lib.hid (show applyE us m.u room = 6 by rw [HAE.out, A7.out, hch, hany]; rfl)
        clear hany
        go_wp2_with (go_at_call 136; refine HCo.out.mono ?_; rintro e w5 ⟨rfl, hw5⟩)
        go_ret2
        exact ApRet.no HR.out (by decide) (HS4.out.2.2.2.2.below hw5).kept
end Go.Proofs.YtomnpfbebimpkaaGreatDoor

/-
  The walk of Apply of package mods.
-/
namespace Go.Proofs.YtomnpfbebimpkaaGreatDoor
set_option maxRecDepth 20000
open Go.RowKit

/-- what Apply has: the list, the change and its box -/
def ApS (w : World) (v : Value) (l : List Rm) (m : Mm) (W : World) : Prop := RLies v l W ∧ InM m W ∧ Blk w.heap.size (mca m) 40 W ∧ Env w W
theorem ApS.below {w : World} {v : Value} {l : List Rm} {m : Mm} {W W' : World} (hb : Below W.heap.size W W') (h : ApS w v l m W) : ApS w v l m W' := ⟨h.1.below hb, h.2.1.below hb, h.2.2.1.below hb, h.2.2.2.below hb⟩
theorem InS.up {w w2 W : World} {v : Value} {L : List Rm} (h : InS w2 v L W) (hb : Below w.heap.size w w2) : InS w v L W := ⟨h.1.mono hb.size, fun y hy => (h.2.1 y hy).mono hb.size, hb.trans (h.2.2.mono hb.size)⟩
theorem ApRet.up {w w2 W : World} {us : List Ru} {m : Mu} {room : Int} {e : Ending} (h : ApRet w2 us m room e W) (hb : Below w.heap.size w w2) : ApRet w us m room e W := by
  obtain ⟨v, L, h1, h2, h3⟩ := h
  exact ⟨v, L, h1, h2, h3.up hb⟩
theorem applyE_other {us : List Ru} {m : Mu} {room : Int} (ht : tabU us = true) (hs : sndM m = true) (hk : m.kind ≠ 1) : applyE us m room = 0 := by
  unfold applyE
  rw [if_neg (by simp [ht, hs]), if_neg hk]
theorem filt_map {m : Mm} (hs : sndM m.u = true) (L : List Rm) : (L.filter fun c => !tcS m c).map (·.u) = (L.map (·.u)).filter fun u => !tchB m.u u := by
  rw [List.filter_map]
  congr 1
  refine List.filter_congr fun x _ => ?_
  unfold tcS
  rw [hs, Bool.true_and]
  rfl
set_option maxHeartbeats 4000000 in
theorem apply_any (v : Value) (l : List Rm) (hlen : l.length ≤ 50000) (hwl : WfRL l) (m : Mm) (hw : WfM m.u) (room : Int) (w : World) (hl : RLies v l w) (ha : InM m w) (ht : Tab w) (hz : 0 < w.heap.size) :
    Calls Tryz.prog 75 #[v, .agg (mca m), .int .i64 room] w (ApRet w (l.map (·.u)) m.u room) := by
  obtain ⟨p, cap, rfl⟩ := hl.1.form
  have HS := Lib.hid (show ApS w (.slice p l.length cap) l m (w.alloc (.cells (mca m) 40)) from ⟨hl.below (below1 _ _), ha.below (below1 _ _), Blk.new _ _ _, (Env.start ht hz).alloc _⟩)
  have HT := Lib.hid (table_any _ l (by omega) hwl _ HS.out.1 HS.out.2.2.2.tab HS.out.2.2.2.lt)
  rw [tabB_tabU] at HT
  have HWL := Lib.hid hwl
  have HW := Lib.hid hw
  obtain ⟨us, hus⟩ : ∃ us, us = l.map (·.u) := ⟨_, rfl⟩
  rw [← hus]
  rw [← hus] at HT
  have HUS := Lib.hid hus
  clear hl ha hwl hw ht hus
  cases htb : tabU us
  · rw [htb] at HT
    have HR := Lib.hid (show applyE us m.u room = 2 by unfold applyE; rw [if_pos (by rw [htb]; rfl)])
    clear htb
    go_enter Tryz.func75, Tryz.ntmps75
    go_wp2_with (go_at_call 105; refine HT.out.mono ?_; rintro e w1 ⟨rfl, hw1⟩)
    go_ret2
    exact ApRet.no HR.out (by decide) (HS.out.2.2.2.below hw1).kept
  · rw [htb] at HT
    have HTB := Lib.hid htb
    clear htb
    go_enter Tryz.func75, Tryz.ntmps75
    go_wp2_with (go_at_call 105; refine HT.out.mono ?_; rintro e w1 ⟨rfl, hw1⟩; refine Hid.out ?_)
    have HS1 := Lib.hid (ApS.below hw1 HS.out)
    have HSo := Lib.hid (msound_any m HW.out w1 HS1.out.2.1 HS1.out.2.2.2.tab HS1.out.2.2.2.lt)
    have RM := Lib.hid HS1.out.2.2.1
    clear hw1 HT HS
    cases hs : sndM m.u
    · rw [hs] at HSo
      have HR := Lib.hid (show applyE us m.u room = 2 by unfold applyE; rw [if_pos (by rw [hs, Bool.and_false])])
      clear hs
      refine Lib.hid ?_
      go_wp2_with (first
        | (refine loadRowG rfl 40 _ rfl w.heap.size rfl 40 (mca m) (0, 0) RM.out Tryz.underlying40 rfl infoM ?_)
        | (go_at_call 102; refine HSo.out.mono ?_; rintro e w2 ⟨rfl, hw2⟩))
      go_ret2
      exact ApRet.no HR.out (by decide) (HS1.out.2.2.2.below hw2).kept
    · rw [hs] at HSo
      have HSN := Lib.hid hs
      clear hs
      refine Lib.hid ?_
      go_upto_region 3 with (first
        | (refine loadRowG rfl 40 _ rfl w.heap.size rfl 40 (mca m) (0, 0) RM.out Tryz.underlying40 rfl infoM ?_)
        | (go_at_call 102; refine HSo.out.mono ?_; rintro e w2 ⟨rfl, hw2⟩))
      have HS2 := Lib.hid (ApS.below hw2 HS1.out)
      clear hw2 HS1 HSo RM
      have RM := Lib.hid HS2.out.2.2.1
      have k0 := HS2.out.2.2.1.cellsM.1
      by_cases h1 : m.u.kind = 1
      · have h1d := eq_true0 h1
        have HAd := Lib.hid (add_any _ l hlen HWL.out m HW.out h1 HSN.out (by rw [← HUS.out]; exact HTB.out) room w2 HS2.out.1 HS2.out.2.1 HS2.out.2.2.2.tab HS2.out.2.2.2.lt)
        rw [← HUS.out] at HAd
        go_wp2_with (first
          | (refine wpList_load_row rfl 40 _ rfl w.heap.size rfl 40 (mca m) (0, 0) _ RM.out Tryz.underlying40 rfl infoM ?_)
          | (go_at_call 108; refine HAd.out.mono ?_; rintro e w3 ⟨rv, L, rfl, hL, hI⟩))
        go_ret2
        exact ⟨rv, L, rfl, hL, hI.up HS2.out.2.2.2.kept⟩
      have h1d := eq_false0 h1
      have HR := Lib.hid (applyE_other (room := room) HTB.out HSN.out h1)
      have HMd := Lib.hid (modify_any _ l (by omega) HWL.out m HW.out HSN.out w2 HS2.out.1 HS2.out.2.1 HS2.out.2.2.2.tab HS2.out.2.2.2.lt)
      rw [← HUS.out] at HMd
      by_cases h2 : m.u.kind = 2
      · have h2d := eq_true0 h2
        go_wp2_with (first
          | (refine wpList_load_row rfl 40 _ rfl w.heap.size rfl 40 (mca m) (0, 0) _ RM.out Tryz.underlying40 rfl infoM ?_)
          | (go_at_call 109; refine HMd.out.mono ?_; rintro e w3 ⟨g, L, rfl, hu, hc⟩))
        go_ret2
        exact (ApRet.tab HR.out (by rw [hu]; unfold applyL; rw [if_neg h1, if_pos (by omega)]) hc).up HS2.out.2.2.2.kept
      have h2d := eq_false0 h2
      by_cases h4 : m.u.kind = 4
      · have h4d := eq_true0 h4
        go_wp2_with (first
          | (refine wpList_load_row rfl 40 _ rfl w.heap.size rfl 40 (mca m) (0, 0) _ RM.out Tryz.underlying40 rfl infoM ?_)
          | (go_at_call 109; refine HMd.out.mono ?_; rintro e w3 ⟨g, L, rfl, hu, hc⟩))
        go_ret2
        exact (ApRet.tab HR.out (by rw [hu]; unfold applyL; rw [if_neg h1, if_pos (by omega)]) hc).up HS2.out.2.2.2.kept
      have h4d := eq_false0 h4
      clear HMd
      go_upto_region 9 with fail
      refine wp_region_held_drew (S := ApS w (.slice p l.length cap) l m) (by kernel_rfl) (ApS.below (Below.refl _ _).drew HS2.out) (fun hS => ?_)
      clear HS2 RM k0
      generalize w2.drew = W at *
      refine seqRead 0 (v := _) rfl (by kernel_rfl) (by kernel_rfl) (by kernel_rfl) (fun _ _ _ h => h) rfl (fun w hSw => by go_simp <;> with_reducible rfl) hS ?_
      try simp only [Act.put, List.setIfInBounds_toArray, List.set_cons_zero, List.set_cons_succ]
      refine seqRead 2 (v := _) rfl (by kernel_rfl) (by kernel_rfl) (by kernel_rfl) (fun _ _ _ h => h) rfl (fun w hSw => execRow0 rfl _ rfl hSw.2.2.1 Tryz.underlying40 rfl infoM) hS ?_
      try simp only [Act.put, List.setIfInBounds_toArray, List.set_cons_zero, List.set_cons_succ]
      refine seqCall 1 rfl (by kernel_rfl) rfl (fun K hK => ?_)
      go_simp
      refine (copy_any _ l (by omega) HWL.out _ hS.1).mono ?_
      rintro e w2 ⟨g, L0, rfl, hu, hc⟩
      have HS0 := Lib.hid hS
      refine hK.out _ _ (ApS.below hc.2.2.1 hS) (fun hS => ?_)
      clear hK K
      have HC2 := Lib.hid hc
      have HU := Lib.hid hu
      clear hc hu
      try simp only [Act.put, List.setIfInBounds_toArray, List.set_cons_zero, List.set_cons_succ]
      refine seqCall 3 rfl (by kernel_rfl) rfl (fun K hK => ?_)
      go_simp
      refine (tby_any m HW.out _ hS.2.1 hS.2.2.2.tab hS.2.2.2.lt).mono ?_
      rintro e w3 ⟨fg, cb, rfl, eg, hpa, hbm, hw3⟩
      refine hK.out _ _ (ApS.below hw3 hS) (fun hS => ?_)
      clear hK K
      have HC3 := Lib.hid (HC2.out.below hw3)
      have HNE := Lib.hid (show w2.heap.size ≠ g from fun e => by have := HC2.out.lt; omega)
      have HPA := Lib.hid hpa
      have HBM := Lib.hid hbm
      clear hpa hbm hw3 HC2
      try simp only [Act.put, List.setIfInBounds_toArray, List.set_cons_zero, List.set_cons_succ]
      refine seqCall 4 rfl (by kernel_rfl) rfl (fun K hK => ?_)
      go_simp
      refine (rdelete_any fg cb (tcS m) eg g w2.heap.size m L0 (by have := congrArg List.length HU.out; simp at this; omega) ((WfUL.of HWL.out).rl HU.out) W w3 HNE.out HC3.out HPA.out HBM.out HS0.out.2.2.2.tab HS0.out.2.2.2.lt).mono ?_
      rintro e w4 ⟨dv, rfl, hI⟩
      refine hK.out _ _ (ApS.below hI.2.2 HS0.out) (fun hS => ?_)
      clear hK K
      have HI4 := Lib.hid hI
      clear hI
      try simp only [Act.put, List.setIfInBounds_toArray, List.set_cons_zero, List.set_cons_succ]
      refine seqRead 5 (v := _) rfl (by kernel_rfl) (by kernel_rfl) (by kernel_rfl) (fun _ _ _ h => h) rfl (fun w hSw => by go_simp <;> with_reducible rfl) hS ?_
      try simp only [Act.put, List.setIfInBounds_toArray, List.set_cons_zero, List.set_cons_succ]
      refine seqRead 6 (v := _) rfl (by kernel_rfl) (by kernel_rfl) (by kernel_rfl) (fun _ _ _ h => h) rfl (fun w hSw => by go_simp <;> with_reducible rfl) hS ?_
      try simp only [Act.put, List.setIfInBounds_toArray, List.set_cons_zero, List.set_cons_succ]
      refine seqDone (by kernel_rfl) ?_
      clear hS
      have hLM := filt_map HSN.out L0
      rw [HU.out, ← HUS.out] at hLM
      have HLM := Lib.hid hLM
      have HKN := Lib.hid (show applyL us m.u = us.filter fun u => !tchB m.u u by unfold applyL; rw [if_neg h1, if_neg (by omega)])
      clear hLM
      go_wp2_with fail
      go_ret2
      exact ⟨dv, L0.filter (fun c => !tcS m c), by rw [HR.out]; rfl, by unfold applyV; rw [if_pos HR.out, HKN.out, HLM.out], HI4.out.up HS0.out.2.2.2.kept⟩
end Go.Proofs.YtomnpfbebimpkaaGreatDoor
