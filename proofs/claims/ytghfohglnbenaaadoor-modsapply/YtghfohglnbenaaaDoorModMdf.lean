/-
  The walk of modify of package mods.
-/
import Derived.Test.YtghfohglnbenaaaDoorModTou
namespace Go.Proofs.YtghfohglnbenaaaDoor
set_option maxRecDepth 20000
open Go.RowKit

/-- the Acts of one rule of a table replaced by others of one's own -/
theorem CpS.acts {B : Nat} {w W : World} {g n : Nat} {L : List Rm} (h : CpS B w g n L W) {i : Nat} {x : Rm} (hi : L[i]? = some x) {q : Option Addr} {k c : Nat} {acts : List Ac} (ha : KOwns KA (g + 1) (.slice q k c) acts W) :
    CpS B w g n (L.set i ⟨{ x.u with acts := acts }, q, k, c⟩) (W.setCell ⟨g, i * 32 + 25, none⟩ (.slice q k c)) := by
  have keep : ∀ (v : Value) (a : List Ac), KOwns KA (g + 1) v a W → KOwns KA (g + 1) v a (W.setCell ⟨g, i * 32 + 25, none⟩ (.slice q k c)) := fun v a hv => KOwns.other hv fun k' hk' _ => heap_setCell_other _ _ _ _ (by show k' ≠ g; omega)
  refine ⟨h.1.cell okR (m := 25) hi (.slice q k c) (by decide) ?_, fun y hy => ?_, h.2.2.1.setCell h.2.2.2 _ (p := ⟨g, i * 32 + 25, none⟩), h.2.2.2⟩
  · show cl x.u.m ++ rtl _ = (cl x.u.m ++ rtl x).set 25 _
    rw [List.set_append_right _ _ (by simp [cl])]
    simp [cl, rtl]
  · rcases List.mem_or_eq_of_mem_set hy with hy | rfl
    · exact keep _ _ (h.2.1 y hy)
    · exact keep _ _ ha
theorem KLies.eqOn {α : Type} {K : Kd α} {v : Value} {l : List α} {W W' : World} (h : KLies K v l W) (ok : K.Ok) (hb : ∀ b, v.ownBlock = some b → b < W.heap.size → W'.heap[b]? = W.heap[b]?) : KLies K v l W' := by
  rcases h with h | ⟨ad, cap, h1, h2, h3⟩
  · exact .inl h
  · refine .inr ⟨ad, cap, h1, h2, fun i a ha => ⟨(h3 i a ha).1, fun j u hu => ?_⟩⟩
    have h4 := (h3 i a ha).2
    exact (World.cell?_of_block (a := ⟨ad.block, ad.off + i * K.n + j, none⟩) (hb ad.block (by rw [h1]; rfl) (ok.rangeLt h4))).trans (h4 j u hu)
theorem grown_setCell (W : World) (g k : Nat) (v : Value) : (W.setCell ⟨g, k, none⟩ v).heap.size = W.heap.size := heap_stM_size [v] k W
/-- the rules so far: those at the places named are modified -/
def MdS (P : List Nat) (acts : List Ac) (l L : List Rm) : Prop := L.length = l.length ∧ ∀ (j : Nat) x, l[j]? = some x → ∃ y, L[j]? = some y ∧ y.u = if j ∈ P then { x.u with acts := acts } else x.u
theorem MdS.start {acts : List Ac} {l L : List Rm} (h : L.map (·.u) = l.map (·.u)) : MdS [] acts l L := by
  have hl : L.length = l.length := by simpa using congrArg List.length h
  refine ⟨hl, fun j x hx => ?_⟩
  obtain ⟨y, hy⟩ := lt_some (l := L) (i := j) (by rw [hl]; exact (List.getElem?_eq_some_iff.1 hx).1)
  refine ⟨y, hy, ?_⟩
  have := congrArg (·[j]?) h
  simp only [List.getElem?_map, hy, hx, Option.map_some, Option.some.injEq] at this
  simpa using this
theorem MdS.step {P : List Nat} {acts : List Ac} {l L : List Rm} (h : MdS P acts l L) {i : Nat} {x y : Rm} (hx : l[i]? = some x) (hy : L[i]? = some y) (q : Option Addr) (k c : Nat) : MdS (P ++ [i]) acts l (L.set i ⟨{ y.u with acts := acts }, q, k, c⟩) := by
  have hil := (List.getElem?_eq_some_iff.1 hy).1
  refine ⟨by simpa using h.1, fun j z hz => ?_⟩
  obtain ⟨y', hy', e'⟩ := h.2 j z hz
  by_cases e : j = i
  · subst e
    rw [hx] at hz
    injection hz with hz
    subst hz
    rw [hy] at hy'
    injection hy' with hy'
    subst hy'
    refine ⟨_, List.getElem?_set_self hil, ?_⟩
    rw [if_pos (by simp)]
    rw [e']
    split <;> rfl
  · refine ⟨y', by rw [List.getElem?_set_ne (Ne.symm e)]; exact hy', ?_⟩
    rw [e']
    by_cases hp : j ∈ P
    · rw [if_pos hp, if_pos (by simp [hp])]
    · rw [if_neg hp, if_neg (by simp [hp, e])]
theorem MdS.done {m : Mm} {l L : List Rm} (hs : sndM m.u = true) (h : MdS (hits (tcS m) l l.length) m.u.acts l L) : L.map (·.u) = (l.map (·.u)).map (modU m.u) := by
  apply List.ext_getElem?
  intro j
  rw [List.getElem?_map, List.getElem?_map, List.getElem?_map]
  cases hx : l[j]? with
  | none =>
    have : L[j]? = none := by rw [List.getElem?_eq_none_iff] at hx ⊢; rw [h.1]; exact hx
    rw [this]; rfl
  | some x =>
    obtain ⟨y, hy, e⟩ := h.2 j x hx
    rw [hy]
    simp only [Option.map_some, Option.some.injEq]
    have hj := (List.getElem?_eq_some_iff.1 hx).1
    rw [e]
    have hm : (j ∈ hits (tcS m) l l.length) ↔ tchB m.u x.u = true := by
      rw [hits_mem hj]
      unfold hitAt tcS
      rw [hx]
      simp only
      rw [hs, Bool.true_and]
    unfold modU
    by_cases ht : tchB m.u x.u = true
    · rw [if_pos (hm.2 ht), if_pos ht]
    · rw [if_neg (fun h => ht (hm.1 h)), if_neg ht]
set_option maxHeartbeats 2000000 in
theorem modify_any (v : Value) (l : List Rm) (hlen : l.length ≤ 100000) (hwl : WfRL l) (m : Mm) (hw : WfM m.u) (hs : sndM m.u = true) (w : World) (hl : RLies v l w) (ha : InM m w) (ht : Tab w) (hz : 0 < w.heap.size) :
    Calls Tryd.prog 28 #[v, .agg (mca m)] w (TabRet w ((l.map (·.u)).map (modU m.u))) := by
  obtain ⟨p, cap, rfl⟩ := hl.1.form
  have R0 := Lib.hid (Blk.new w (mca m) 30)
  have HE := Lib.hid ((Env.start ht hz).alloc (.cells (mca m) 30))
  have HC := Lib.hid (copy_any _ l hlen hwl _ (hl.below (below1 w (.cells (mca m) 30))))
  have HL := Lib.hid hl
  have HA := Lib.hid ha
  have HWL := Lib.hid hwl
  have HW := Lib.hid hw
  have HSN := Lib.hid hs
  clear ht ha hw hl hwl hs
  go_enter Tryd.func28, Tryd.ntmps28
  go_upto_region 2 with (go_at_call 30; refine HC.out.mono ?_; rintro e w1 ⟨g, L0, rfl, hu, hc⟩)
  have R1 := Lib.hid (R0.out.below hc.2.2.1)
  have HE1 := Lib.hid (HE.out.below hc.2.2.1)
  have HCp := Lib.hid (show CpS w.heap.size w g L0.length L0 w1 from ⟨hc.1, hc.2.1, HE1.out.kept, by have := hc.2.2.2; simp at this; omega⟩)
  have HGB := Lib.hid (show w.heap.size < g by have := hc.2.2.2; simp at this; omega)
  have HU := Lib.hid hu
  have HT := Lib.hid (touched_any _ l hlen HWL.out m HW.out w1 (HL.out.1.below okR HE1.out.kept) (HA.out.below HE1.out.kept) HE1.out.tab HE1.out.lt)
  clear hu hc HC HE R0
  go_upto_region 3 with (first
    | (refine wpList_load_row rfl 30 _ rfl w.heap.size rfl 30 (mca m) (0, 0) _ R1.out Tryd.underlying30 rfl infoM ?_)
    | (go_at_call 20; refine HT.out.mono ?_; rintro e w2 ⟨tv, rfl, ho, hw2⟩; obtain ⟨tp, tc, rfl⟩ := ho.form))
  have R2 := Lib.hid (R1.out.below hw2)
  have HB2 := Lib.hid (HE1.out.below hw2).kept
  have HC2 := Lib.hid (HCp.out.below hw2)
  have HO2 := Lib.hid (ho.lies okI)
  have HG2 := Lib.hid (show ∀ k, (Value.slice tp (hits (tcS m) l l.length).length tc).ownBlock = some k → g < k from fun k hk => Nat.lt_of_lt_of_le HCp.out.lt (ho.ge k hk))
  clear hw2 HT HE1 R1 HCp ho
  obtain ⟨P, hP⟩ : ∃ P, P = hits (tcS m) l l.length := ⟨_, rfl⟩
  rw [← hP] at HO2 HG2 ⊢
  have HPl := Lib.hid (show ∀ i ∈ P, i < l.length from fun i hi => hits_lt (by rw [← hP]; exact hi))
  have HPE := Lib.hid hP
  have hPn : P.length ≤ 100000 := by rw [hP]; exact Nat.le_trans hits_len hlen
  clear hP
  have HL0 := Lib.hid (show L0.length = l.length by simpa using congrArg List.length HU.out)
  go_wp2_with fail
  go_loopg [14] P.length (fun k s14 wr => ∃ (t : Nat) (L : List Rm), t + k = P.length ∧ s14 = .int .i64 t ∧ MdS (P.take t) m.u.acts l L ∧ CpS w.heap.size w g L0.length L wr ∧ Blk w.heap.size (mca m) 30 wr ∧ w2.heap.size ≤ wr.heap.size ∧ ∀ b, g < b → b < w2.heap.size → wr.heap[b]? = w2.heap[b]?)
  case atStart => exact ⟨0, L0, by omega, rfl, MdS.start HU.out, HC2.out, R2.out, Nat.le_refl _, fun b _ _ => rfl⟩
  case round =>
    obtain ⟨t, L, ht, rfl, hm, hc, hr, hsz, heq⟩ := hrel
    have HM := Lib.hid hm
    have HCp := Lib.hid hc
    have HR := Lib.hid hr
    have HSZ := Lib.hid hsz
    have HEQ := Lib.hid heq
    clear hm hc hr hsz heq HC2 R2
    by_cases hlt : t < P.length
    · have hltI : (t : Int) < (P.length : Int) := by omega
      obtain ⟨i, hi⟩ := lt_some hlt
      have hil : i < l.length := HPl.out i (List.mem_of_getElem? hi)
      obtain ⟨x, hx⟩ := lt_some hil
      obtain ⟨y, hy⟩ := lt_some (l := L) (i := i) (by rw [HM.out.1]; exact hil)
      have HKI := HO2.out.eqOn okI (fun b hb hlt => HEQ.out b (HG2.out b hb) hlt)
      obtain ⟨b, o, rfl, _⟩ := HKI.at hi
      have kI := HKI.cellI hi
      have hiL : (i : Int) < (L0.length : Int) := by have := HL0.out; omega
      have HX := Lib.hid hx
      have HY := Lib.hid hy
      have HI := Lib.hid hi
      have k26 := HR.out.cellsM.2.2.2.1
      have HCl := Lib.hid (aclone_any (.slice m.q m.n m.c) m.u.acts HW.out.room wr (HA.out.below HCp.out.2.2.1))
      clear hx hy hi HKI
      go_wp2_with (go_at_call 57; refine HCl.out.mono ?_; rintro e w3 ⟨cv, rfl, ho, hw3⟩; refine Hid.out ?_)
      obtain ⟨q, c, rfl⟩ := ho.form
      have HC3 := Lib.hid (HCp.out.below hw3)
      have HOA := Lib.hid (KOwns.mono ho (show g + 1 ≤ wr.heap.size from HCp.out.lt))
      have R3 := Lib.hid (HR.out.below hw3)
      have HSZ3 := Lib.hid (Nat.le_trans HSZ.out hw3.size)
      have HEQ3 := Lib.hid (show ∀ b, g < b → b < w2.heap.size → w3.heap[b]? = w2.heap[b]? from fun b h1 h2 => (hw3.block b (Nat.lt_of_lt_of_le h2 HSZ.out)).trans (HEQ.out b h1 h2))
      have HTH := Lib.hid (show w3.there g (i * 32 + 25) 1 from fun t' ht' => by
        have := HC3.out.1.there (i := i) (by have := HL0.out; omega) (25 + t') (by show 25 + t' < 32; omega)
        rwa [show i * KR.n + (25 + t') = i * 32 + 25 + t' by show i * 32 + (25 + t') = _; omega] at this)
      clear ho hw3 HCl HCp HR HSZ HEQ k26 kI
      refine Lib.hid ?_
      go_wp2_with (refine storeCell rfl 28 _ _ rfl g (i * 32 + 25) (.slice q m.u.acts.length c) rfl rfl rfl HTH.out infoActs ?_; refine Hid.out ?_)
      have HC4 := Lib.hid (HC3.out.acts HY.out HOA.out)
      have R4 := Lib.hid (R3.out.cother (g := g) (k := i * 32 + 25) (by have := HGB.out; omega) (.slice q m.u.acts.length c))
      have HSZ4 := Lib.hid (show w2.heap.size ≤ (w3.setCell ⟨g, i * 32 + 25, none⟩ (.slice q m.u.acts.length c)).heap.size by have := (grown_setCell w3 g (i * 32 + 25) (.slice q m.u.acts.length c)); rw [this]; exact HSZ3.out)
      have HEQ4 := Lib.hid (show ∀ b, g < b → b < w2.heap.size → (w3.setCell ⟨g, i * 32 + 25, none⟩ (.slice q m.u.acts.length c)).heap[b]? = w2.heap[b]? from fun b h1 h2 => (heap_setCell_other _ _ _ _ (by show b ≠ g; omega)).trans (HEQ3.out b h1 h2))
      have HM4 := Lib.hid (show MdS (P.take (t + 1)) m.u.acts l (L.set i ⟨{ y.u with acts := m.u.acts }, q, m.u.acts.length, c⟩) from by
        have := HM.out.step HX.out HY.out q m.u.acts.length c
        rwa [show P.take (t + 1) = P.take t ++ [i] by rw [List.take_add_one, HI.out]; rfl])
      clear HC3 HOA R3 HSZ3 HEQ3 HTH
      generalize w3.setCell ⟨g, i * 32 + 25, none⟩ (.slice q m.u.acts.length c) = W4 at *
      refine Lib.hid ?_
      go_wp2_with fail
      go_roundg (P.length - (t + 1))
      case measure => omega
      case rel => exact ⟨t + 1, _, by omega, by go_num, HM4.out, HC4.out, R4.out, HSZ4.out, HEQ4.out⟩
    · have hltI : ¬ (t : Int) < (P.length : Int) := by omega
      have ht' : t = P.length := by omega
      have HT := Lib.hid ht'
      go_wp2_with fail
      go_ret
      have hLl : L.length = L0.length := by rw [HM.out.1, HL0.out]
      refine ⟨g, L, by rw [hLl]; rfl, ?_, ?_⟩
      · have h0 := HM.out
        rw [HT.out, List.take_length, HPE.out] at h0
        have h1 := MdS.done HSN.out h0
        first | exact h1 | (rw [List.map_map] at h1; exact h1)
      · rw [hLl]; exact HCp.out
end Go.Proofs.YtghfohglnbenaaaDoor
