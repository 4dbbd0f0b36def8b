/-
  The walk of slices.DeleteFunc over a table of one's own.
-/
import Derived.Test.YtghfohglnbenaaaDoorModTou
namespace Go.Proofs.YtghfohglnbenaaaDoor
set_option maxRecDepth 20000
open Go.RowKit

/-- clear of a slice of rules -/
theorem run_clear_rules (w : World) (ty : TypeId) (b o n c : Nat) (hn : 0 < n) (hc : ∀ j, j < n * 32 → (w.cell? ⟨b, o + j, none⟩).isSome = true) (hf : ∀ j, j < n * 32 → w.frozen? ⟨b, o + j, none⟩ = false) :
    ∃ vs, (Builtin.clear_ #[22] ty #[.slice (some ⟨b, o, none⟩) n c]).run Tryd.prog w = .ok (.tuple #[]) (w.setCells b o vs) := by
  obtain ⟨i, z, hi, hz, hs, hb, hzs⟩ := okR.info
  have hzc := zeroOf zeroR hi hz
  have hv : (zeroValue 44).run Tryd.prog w = .ok z w := by simp [zeroValue, typeInfo, hi, hz]
  refine ⟨(Builtin.zeroCells z.cells n).toList, ?_⟩
  have hlen : (Builtin.zeroCells z.cells n).toList.length = n * 32 := by simp [Builtin.zeroCells, hzs]
  have hst := run_storeCells_cells (P := Tryd.prog) b o (Builtin.zeroCells z.cells n).toList 0 w (by rw [hlen]; simpa using hc) (by rw [hlen]; simpa using hf) (by
    intro v hv'
    have hall : z.cells.all (·.oneCell') = true := by rw [hzc]; kernel_rfl
    simp only [Builtin.zeroCells, Array.toList_map, List.mem_map] at hv'
    obtain ⟨k, _, rfl⟩ := hv'
    have hk : k % z.cells.size < z.cells.size := Nat.mod_lt _ (by rw [hzs]; decide)
    rw [getElem!_pos z.cells _ hk]
    exact (Array.all_eq_true.1 hall) _ hk)
  simp only [Nat.add_zero] at hst
  obtain ⟨m, rfl⟩ : ∃ m, n = m + 1 := ⟨n - 1, by omega⟩
  simp [Builtin.clear_, run_underlying Tryd.underlying22, hv, hst]
/-- how far DeleteFunc is: i rules kept of the first j; the others as they were -/
structure KeptR (q : Rm → Bool) (l : List Rm) (i j : Nat) (d : List Rm) : Prop where
  len : d.length = l.length
  lt : i < j
  le : j ≤ l.length
  pre : d.take i = (l.take j).filter fun c => !q c
  post : ∀ k, j ≤ k → d[k]? = l[k]?
section
variable {q : Rm → Bool} {l d : List Rm} {i j : Nat} {x : Rm}
theorem KeptR.start (hx : l[i]? = some x) (h1 : q x = true) (h2 : ∀ (j : Nat) b, j < i → l[j]? = some b → q b = false) : KeptR q l i (i + 1) l := by
  refine ⟨rfl, Nat.lt_succ_self _, (List.getElem?_eq_some_iff.1 hx).1, ?_, fun _ _ => rfl⟩
  rw [List.take_add_one, hx, List.filter_append]
  have : (l.take i).filter (fun c => !q c) = l.take i := List.filter_eq_self.2 fun y hy => by
    obtain ⟨j, hj, rfl⟩ := List.mem_iff_getElem.1 hy
    have hj' : j < i := by rw [List.length_take] at hj; omega
    have hjl : j < l.length := by rw [List.length_take] at hj; omega
    have := h2 j l[j] hj' (List.getElem?_eq_getElem hjl)
    rw [List.getElem_take, this]
    rfl
  rw [this]
  simp [h1]
theorem KeptR.keep (h : KeptR q l i j d) (hx : l[j]? = some x) (hq : q x = false) : KeptR q l (i + 1) (j + 1) (d.set i x) := by
  have hj := (List.getElem?_eq_some_iff.1 hx).1
  have hl := h.len
  have hlt := h.lt
  refine ⟨by rw [List.length_set]; exact hl, by omega, hj, ?_, fun k hk => ?_⟩
  · rw [List.take_add_one, List.getElem?_set_self (by omega), List.take_set_of_le (Nat.le_refl _), h.pre, List.take_add_one, hx, List.filter_append]
    simp [hq]
  · rw [List.getElem?_set_ne (by omega)]; exact h.post k (by omega)
theorem KeptR.skip (h : KeptR q l i j d) (hx : l[j]? = some x) (hq : q x = true) : KeptR q l i (j + 1) d := by
  have hj := (List.getElem?_eq_some_iff.1 hx).1
  refine ⟨h.len, by have := h.lt; omega, hj, ?_, fun k hk => h.post k (by omega)⟩
  rw [h.pre, List.take_add_one, hx, List.filter_append]
  simp [hq]
theorem KeptR.done (h : KeptR q l i l.length d) : d.take i = l.filter fun c => !q c := by rw [h.pre, List.take_length]
theorem kidx_cases (q : Rm → Bool) (l : List Rm) : (kidx q l = -1 ∧ ∀ x ∈ l, q x = false) ∨ ∃ (i : Nat) (x : Rm), kidx q l = i ∧ l[i]? = some x ∧ q x = true ∧ ∀ (j : Nat) b, j < i → l[j]? = some b → q b = false := by
  unfold kidx
  cases h : l.findIdx? q with
  | none =>
    rw [List.findIdx?_eq_none_iff] at h
    exact .inl ⟨rfl, h⟩
  | some i =>
    rw [List.findIdx?_eq_some_iff_getElem] at h
    obtain ⟨hi, h1, h2⟩ := h
    refine .inr ⟨i, l[i], rfl, List.getElem?_eq_getElem hi, h1, fun j b hj hb => ?_⟩
    obtain ⟨hl, rfl⟩ := List.getElem?_eq_some_iff.1 hb
    simpa using h2 j hj
end
/-- a list of one's own that a call gives -/
def DelR (w0 : World) (L : List Rm) (e : Ending) (w' : World) : Prop := ∃ v, e = .returned v ∧ InS w0 v L w'
/-- what DeleteFunc has while it goes over the rules -/
def RdS (w0 : World) (q : Rm → Bool) (l : List Rm) (B Bm : Nat) (m : Mm) (i j : Nat) (W : World) : Prop :=
  ∃ d, KeptR q l i j d ∧ KAt KR B l.length d W ∧ (∀ r ∈ l, OwnA (B + 1) r W) ∧ Below w0.heap.size w0 W ∧ Blk Bm (mca m) 30 W
/-- a row of rules cut, and what is behind it wiped -/
theorem KAt.wipe {g cap : Nat} {l : List Rm} {W : World} (h : KAt KR g cap l W) (vs : List Value) : KAt KR g cap l (W.setCells g (l.length * 32) vs) := by
  obtain ⟨h1, h2, cur, h3, h4, h5⟩ := h
  refine ⟨h1, h2, stM cur (l.length * 32) vs, heap_stM _ _ _ _ h3, by rw [stM_size]; exact h4, fun i a ha j u hu => ?_⟩
  have hi := (List.getElem?_eq_some_iff.1 ha).1
  have hj : j < 32 := by have := (List.getElem?_eq_some_iff.1 hu).1; rwa [okR.len] at this
  rw [stM_out _ _ _ _ (.inl (show i * 32 + j < l.length * 32 by omega))]
  exact h5 i a ha j u hu
set_option maxHeartbeats 2000000 in
theorem rdelete_some (g : Nat) (cb : Array Value) (q : Rm → Bool) (eg : ∀ args w, (callFunc g args).run Tryd.prog w = .ok (.enter g args) w) (B Bm : Nat) (m : Mm) (l : List Rm) (hlen : l.length ≤ 100000) (hw : WfRL l) (w0 w : World) (hne : Bm ≠ B)
    (hl : CpS w0.heap.size w0 B l.length l w) (hpa : PredA g cb q Bm m) (hbm : Blk Bm (mca m) 30 w) (ht : Tab w0) (hz : 0 < w0.heap.size) (k0 : Nat) (x0 : Rm) (hidx : kidx q l = k0) (hx0 : l[k0]? = some x0) (h1 : q x0 = true) (h2 : ∀ (j : Nat) b, j < k0 → l[j]? = some b → q b = false) :
    Calls Tryd.prog 29 #[.slice (some ⟨B, 0, none⟩) l.length l.length, .func (.func g) #[] cb] w (DelR w0 (l.filter fun c => !q c)) := by
  have HE := Lib.hid (fun (W : World) (hb : Below w0.heap.size w0 W) => (Env.start ht hz).predK W hb)
  have hB := hl.2.2.2
  have HI := Lib.hid (rindex_any g cb q eg (some ⟨B, 0, none⟩) l.length l (by omega) hw w (hl.lies).1 (hpa.pred hbm (HE.out w hl.2.2.1).1 (HE.out w hl.2.2.1).2))
  rw [hidx] at HI
  have HS := Lib.hid (show RdS w0 q l B Bm m k0 (k0 + 1) w from ⟨l, KeptR.start hx0 h1 h2, hl.1, hl.2.1, hl.2.2.1, hbm⟩)
  have hk0 : k0 < l.length := (List.getElem?_eq_some_iff.1 hx0).1
  have HP := Lib.hid hpa
  have HW := Lib.hid hw
  clear hl hpa hw hbm hidx hx0 h1 h2 ht
  have hne1 : ((k0 : Int) == -1) = false := beq_eq_false_iff_ne.2 (by omega)
  go_enter Tryd.func29, Tryd.ntmps29
  go_wp2_with (go_at_call 49; refine HI.out.mono ?_; rintro e w1 ⟨rfl, hw1⟩)
  have HS1 := Lib.hid (show RdS w0 q l B Bm m k0 (k0 + 1) w1 from by
    obtain ⟨d, a, b, c, e, f⟩ := HS.out
    exact ⟨d, a, b.below hw1, fun r hr => (c r hr).below hw1, e.trans (hw1.mono e.size), f.below hw1⟩)
  clear hw1 HS HI
  go_loopg [5, 6] (l.length - (k0 + 1)) (fun k s5 s6 wr => ∃ i j : Nat, j + k = l.length ∧ s5 = .int .i64 i ∧ s6 = .int .i64 j ∧ RdS w0 q l B Bm m i j wr)
  case atStart => exact ⟨k0, k0 + 1, by omega, rfl, by go_num, HS1.out⟩
  case round =>
    clear HS1
    obtain ⟨i, j, hj, rfl, rfl, d, hK, hO, hA, hBe, hM⟩ := hrel
    have HK := Lib.hid hK
    have HO := Lib.hid hO
    have HA := Lib.hid hA
    have HB := Lib.hid hBe
    have HM := Lib.hid hM
    clear hK hO hBe hA hM
    by_cases hlt : j < l.length
    · have hltI : (j : Int) < (l.length : Int) := by omega
      have hij := HK.out.lt
      have hilI : (i : Int) < (l.length : Int) := by omega
      have hil : i < l.length := by omega
      obtain ⟨x, hx⟩ := lt_some hlt
      have HX := Lib.hid hx
      have HR := Lib.hid (show wr.rangeAt B (j * 32) (rcl x) from HO.out.range (by rw [HK.out.post j (Nat.le_refl _)]; exact hx))
      have HB1 := Lib.hid (HB.out.alloc HB.out.size (.cells (rca x) 44))
      have HC := Lib.hid (show Calls Tryd.prog g (#[.agg (rca x)] ++ cb) (wr.alloc (.cells (rca x) 44)) _ from HP.out (wr.alloc (.cells (rca x) 44)) (HM.out.below (below1 _ _)) (HE.out _ HB1.out).1 (HE.out _ HB1.out).2 x (HW.out.at hx))
      have R0 := Lib.hid (Blk.new wr (rca x) 44)
      have HO1 := Lib.hid (HO.out.below (below1 wr (.cells (rca x) 44)))
      have HA1 := Lib.hid (show ∀ r ∈ l, OwnA (B + 1) r (wr.alloc (.cells (rca x) 44)) from fun r hr => (HA.out r hr).below (below1 wr (.cells (rca x) 44)))
      have HM1 := Lib.hid (HM.out.below (below1 wr (.cells (rca x) 44)))
      clear hx HO HA HB HM
      cases hq : q x
      · rw [hq] at HC
        have HK1 := Lib.hid (HK.out.keep HX.out hq)
        clear hq
        go_wp2_with (first
          | (refine wpList_load_mid rfl 44 _ rfl B (j * 32) rfl (rcl x) _ HR.out Tryd.underlying44 rfl infoR ?_)
          | (refine wpList_store_row rfl 44 _ _ rfl wr.heap.size (rca x) rfl rfl 44 _ (heap_alloc_new _ _) (by kernel_rfl) rfl (rca_one _) ?_; rw [World.setRow_alloc_new])
          | (refine wpList_load_row rfl 44 _ rfl wr.heap.size rfl 44 (rca x) (0, 0) _ R0.out Tryd.underlying44 rfl infoR ?_))
        refine HC.out.mono ?_
        rintro e w2 ⟨rfl, hw2⟩
        have R1 := Lib.hid (R0.out.below hw2)
        have HO2 := Lib.hid (HO1.out.below hw2)
        have HA2 := Lib.hid (show ∀ r ∈ l, OwnA (B + 1) r w2 from fun r hr => (HA1.out r hr).below hw2)
        have HB2 := Lib.hid (HB1.out.trans (hw2.mono HB1.out.size))
        have HM2 := Lib.hid (HM1.out.below hw2)
        clear hw2 HC R0 HR HO1 HA1 HB1 HM1
        go_upto_region 10 with (first
          | (refine kstore KR okR infoR rfl (.tmp 33) (.tmp 32) rfl B i l.length d x rfl rfl HO2.out hil ?_)
          | (refine wpList_load_row rfl 44 (.tmp 7) rfl wr.heap.size rfl 44 (rca x) (0, 0) _ R1.out Tryd.underlying44 rfl infoR ?_))
        have HO3 := Lib.hid (HO2.out.set okR (show i < d.length by rw [HK.out.len]; exact hil) x)
        have HA3 := Lib.hid (show ∀ r ∈ l, OwnA (B + 1) r (w2.setCells B (i * 32) (rcl x)) from fun r hr => KOwns.other (HA2.out r hr) fun k hk _ => heap_stM_other (by omega) _ _ _)
        have HB3 := Lib.hid (below_stM HB2.out HB2.out.size hB (rcl x) (o := i * 32))
        have HM3 := Lib.hid (show Blk Bm (mca m) 30 (w2.setCells B (i * 32) (rcl x)) from (heap_stM_other hne _ _ _).trans HM2.out)
        clear HO2 HA2 HB2 HM2 R1
        generalize w2.setCells B (i * 32) (rcl x) = w3 at *
        go_wp2
        go_roundg (l.length - (j + 1))
        case measure => omega
        case rel => exact ⟨i + 1, j + 1, by omega, by go_num, by go_num, d.set i x, HK1.out, HO3.out, HA3.out, HB3.out, HM3.out⟩
      · rw [hq] at HC
        have HK1 := Lib.hid (HK.out.skip HX.out hq)
        clear hq
        go_wp2_with (first
          | (refine wpList_load_mid rfl 44 _ rfl B (j * 32) rfl (rcl x) _ HR.out Tryd.underlying44 rfl infoR ?_)
          | (refine wpList_store_row rfl 44 _ _ rfl wr.heap.size (rca x) rfl rfl 44 _ (heap_alloc_new _ _) (by kernel_rfl) rfl (rca_one _) ?_; rw [World.setRow_alloc_new])
          | (refine wpList_load_row rfl 44 _ rfl wr.heap.size rfl 44 (rca x) (0, 0) _ R0.out Tryd.underlying44 rfl infoR ?_))
        refine HC.out.mono ?_
        rintro e w2 ⟨rfl, hw2⟩
        have HO2 := Lib.hid (HO1.out.below hw2)
        have HA2 := Lib.hid (show ∀ r ∈ l, OwnA (B + 1) r w2 from fun r hr => (HA1.out r hr).below hw2)
        have HB2 := Lib.hid (HB1.out.trans (hw2.mono HB1.out.size))
        have HM2 := Lib.hid (HM1.out.below hw2)
        clear hw2 HC R0 HR HO1 HA1 HB1 HM1
        go_wp2
        go_roundg (l.length - (j + 1))
        case measure => omega
        case rel => exact ⟨i, j + 1, by omega, rfl, by go_num, d, HK1.out, HO2.out, HA2.out, HB2.out, HM2.out⟩
    · obtain rfl : j = l.length := by omega
      have hij := HK.out.lt
      have hdl := HK.out.len
      have hlt' : ¬ ((l.length : Int) < (l.length : Int)) := by omega
      have hid : i ≤ d.length := by omega
      have hlk : (d.take i).length = i := by rw [List.length_take]; omega
      have hO1 : KAt KR B l.length (d.take i) wr := HO.out.cut (by rw [hlk]; omega) fun k a hk => by
        have hk' : k < i := by have := (List.getElem?_eq_some_iff.1 hk).1; omega
        rwa [List.getElem?_take_of_lt hk'] at hk
      have hth : ∀ t, t < (l.length - i) * 32 → (wr.cell? ⟨B, i * 32 + t, none⟩).isSome = true ∧ wr.frozen? ⟨B, i * 32 + t, none⟩ = false := fun t ht => by
        have := HO.out.there (i := i + t / 32) (by omega) (t % 32) (by show t % 32 < 32; omega)
        rwa [show (i + t / 32) * KR.n + t % 32 = i * 32 + t by show (i + t / 32) * 32 + t % 32 = _; omega] at this
      have hcl := run_clear_rules wr (ty := 0) B (i * 32) (l.length - i) (l.length - i) (by omega) (fun t ht => (hth t ht).1) (fun t ht => (hth t ht).2)
      obtain ⟨vs, hcl⟩ := hcl
      have hcl' : ∀ ty, (Builtin.clear_ #[22] ty #[.slice (some ⟨B, i * 32, none⟩) (l.length - i) (l.length - i)]).run Tryd.prog wr = .ok (.tuple #[]) (wr.setCells B (i * 32) vs) := fun ty => hcl
      have HO2 := Lib.hid (show KAt KR B l.length (d.take i) (wr.setCells B (i * 32) vs) from by have := hO1.wipe vs; rwa [hlk] at this)
      have HA2 := Lib.hid (show ∀ r ∈ l, OwnA (B + 1) r (wr.setCells B (i * 32) vs) from fun r hr => KOwns.other (HA.out r hr) fun k hk _ => heap_stM_other (by omega) _ _ _)
      have HB2 := Lib.hid (below_stM HB.out HB.out.size hB vs (o := i * 32))
      have HD := Lib.hid HK.out.done
      have HLK := Lib.hid hlk
      clear hO1 hcl HO HA HB HM hth hlk
      go_wp2
      go_ret
      refine ⟨_, rfl, ?_, fun y hy => ?_, HB2.out⟩
      · have := KAt.owns okR HO2.out hB
        rw [HLK.out] at this
        rw [← HD.out]
        exact this
      · exact (HA2.out y (List.mem_filter.1 hy).1).mono (by omega)
set_option maxHeartbeats 1000000 in
theorem rdelete_any (g : Nat) (cb : Array Value) (q : Rm → Bool) (eg : ∀ args w, (callFunc g args).run Tryd.prog w = .ok (.enter g args) w) (B Bm : Nat) (m : Mm) (l : List Rm) (hlen : l.length ≤ 100000) (hw : WfRL l) (w0 w : World) (hne : Bm ≠ B)
    (hl : CpS w0.heap.size w0 B l.length l w) (hpa : PredA g cb q Bm m) (hbm : Blk Bm (mca m) 30 w) (ht : Tab w0) (hz : 0 < w0.heap.size) :
    Calls Tryd.prog 29 #[.slice (some ⟨B, 0, none⟩) l.length l.length, .func (.func g) #[] cb] w (DelR w0 (l.filter fun c => !q c)) := by
  rcases kidx_cases q l with ⟨e, h⟩ | ⟨i, x, e, hi, h1, h2⟩
  · have hE := (Env.start ht hz).predK w hl.2.2.1
    have HI := Lib.hid (rindex_any g cb q eg (some ⟨B, 0, none⟩) l.length l (by omega) hw w (hl.lies).1 (hpa.pred hbm hE.1 hE.2))
    rw [e] at HI
    have HF := Lib.hid (show l.filter (fun c => !q c) = l from List.filter_eq_self.2 fun x hx => by rw [h x hx]; rfl)
    have HL := Lib.hid hl
    rw [HF.out]
    clear hl hpa hw hbm ht e h hE
    go_enter Tryd.func29, Tryd.ntmps29
    go_wp2_with (go_at_call 49; refine HI.out.mono ?_; rintro e w1 ⟨rfl, hw1⟩)
    go_ret
    have hc := HL.out.below hw1
    exact ⟨_, rfl, KAt.owns okR hc.1 hc.2.2.2, fun y hy => (hc.2.1 y hy).mono (by have := hc.2.2.2; omega), hc.2.2.1⟩
  · exact rdelete_some g cb q eg B Bm m l hlen hw w0 w hne hl hpa hbm ht hz i x e hi h1 h2
end Go.Proofs.YtghfohglnbenaaaDoor
