/-
  All changes of open transactions; changes laid one by one; the view.
-/
import Derived.Test.YtomnpfbebimpkaaGreatDoorUniFun
import Derived.Test.YtomnpfbebimpkaaGreatDoorModAns
namespace Go.Proofs.YtomnpfbebimpkaaGreatDoor
set_option maxRecDepth 20000
open Go.RowKit

theorem infoMod : (Tryz.prog.info? 40).map (·.size) = some 31 := by kernel_rfl
/-- all changes of open transactions, in memory -/
def chgT (ts : List Tm) : List Mm := ts.flatMap (·.ms)
theorem chgT_u (ts : List Tm) : (chgT ts).map (·.u) = chgO (ts.map (·.tx)) := by
  induction ts with
  | nil => rfl
  | cons t ts ih =>
    show ((t :: ts).flatMap (·.ms)).map (·.u) = ((t :: ts).map (·.tx)).flatMap (·.list)
    rw [List.flatMap_cons, List.map_append, List.map_cons, List.flatMap_cons]
    congr 1
theorem chgT_take (ts : List Tm) (r : Nat) (t : Tm) (h : ts[r]? = some t) : chgT (ts.take (r + 1)) = chgT (ts.take r) ++ t.ms := by
  unfold chgT
  rw [List.take_add_one, h, List.flatMap_append]
  simp
theorem chgT_len (ts : List Tm) (r : Nat) : (chgT (ts.take r)).length ≤ (chgT ts).length := by
  have e : chgT ts = chgT (ts.take r) ++ chgT (ts.drop r) := by
    unfold chgT
    rw [← List.flatMap_append, List.take_append_drop]
  rw [e, List.length_append]
  omega
theorem chgT_in {B : Nat} {x : Um} {W : World} (h : UniA B x W) : ∀ m ∈ chgT x.ts, InM m W := fun m hm => by
  obtain ⟨t, ht, h2⟩ := List.mem_flatMap.1 hm
  exact ((h.txs t ht).acts m h2).inM
set_option maxHeartbeats 1000000 in
theorem un_changes (x : Um) (B : Nat) (hlen : (chgT x.ts).length ≤ 100000 ∧ x.ts.length ≤ 100000) (w : World) (h : UniA B x w) :
    Calls Tryz.prog 68 #[.pointer (some ⟨x.p, 0, none⟩)] w fun e w' => ∃ v, e = .returned v ∧ KOwns KM w.heap.size v (chgT x.ts) w' ∧ Below w.heap.size w w' := by
  obtain ⟨p, c, hv⟩ := h.voForm
  have HU := Lib.hid h
  have HV := Lib.hid hv
  have HLEN := Lib.hid hlen.1
  have hl2 : x.ts.length ≤ 100000 := hlen.2
  have c2 : w.cell? ⟨x.p, 2, none⟩ = some (.slice p x.ts.length c) := by rw [← HV.out]; exact HU.out.vo_
  clear h hv hlen
  obtain ⟨n, hn⟩ : ∃ n, n = x.ts.length := ⟨_, rfl⟩
  have HN := Lib.hid hn
  rw [← hn] at hl2 c2
  clear hn
  go_enter Tryz.func68, Tryz.ntmps68
  go_wp2_with fail
  clear c2
  go_loopg [3, 11] n (fun k s3 s11 wr => ∃ r : Nat, r + k = n ∧ s11 = .int .i64 r ∧ KOwns KM w.heap.size s3 (chgT (x.ts.take r)) wr ∧ Below w.heap.size w wr)
  case atStart => exact ⟨0, by omega, rfl, KOwns.nil _ _, Below.refl _ _⟩
  case round =>
    obtain ⟨r, hr, rfl, ho, hb⟩ := hrel
    have HO := Lib.hid ho
    have HB := Lib.hid hb
    obtain ⟨p3, c3, e3⟩ := ho.form
    subst e3
    clear ho hb
    by_cases hlt : r < n
    · have hltI : (r : Int) < (n : Int) := by omega
      obtain ⟨t, ht⟩ := lt_some (l := x.ts) (i := r) (by have := HN.out; omega)
      have HT := Lib.hid ht
      obtain ⟨b, o, rfl, hrg⟩ := (show KLies KX (.slice p n c) (x.ts.map (·.b)) wr by rw [HN.out, ← HV.out]; exact (HU.out.below HB.out).opn.lies okX).at (i := r) (a := t.b) (by rw [List.getElem?_map, ht]; rfl)
      obtain ⟨c0, c1⟩ := ptrAt hrg
      have HTA := Lib.hid ((HU.out.txs t (List.mem_of_getElem? ht)).below HB.out)
      obtain ⟨pv, cv, hvv⟩ := HTA.out.own.form
      have HVV := Lib.hid hvv
      have cv1 : wr.cell? ⟨t.b, 1, none⟩ = some (.slice pv t.ms.length cv) := by rw [← HVV.out]; exact HTA.out.v_
      have HST := Lib.hid (chgT_take x.ts r t ht)
      have HLS := Lib.hid (show (chgT (x.ts.take r)).length + t.ms.length ≤ 1000000 by
        have h1 := chgT_len x.ts (r + 1)
        rw [chgT_take x.ts r t ht, List.length_append] at h1
        have := HLEN.out
        omega)
      clear hrg ht hvv
      go_wp2_with (refine kappend KM okM rfl _ _ rfl w.heap.size _ (chgT (x.ts.take r)) t.ms rfl HO.out _ rfl (by rw [← HVV.out]; exact HTA.out.own.lies okM) HB.out.size HLS.out (fun v' w' ho hg => ?_); refine Hid.out ?_)
      have HB1 := Lib.hid (kbelowOwn HB.out HO.out (Nat.le_refl _) hg)
      have HO1 := Lib.hid ho
      clear ho hg HO HB c0 c1 cv1 HTA
      refine Lib.hid ?_
      go_wp2_with fail
      go_roundg (n - (r + 1))
      case measure => omega
      case rel => exact ⟨r + 1, by omega, by go_num, by rw [HST.out]; exact HO1.out, HB1.out⟩
    · have hltI : ¬ (r : Int) < (n : Int) := by omega
      have HF := Lib.hid (show x.ts.take r = x.ts from List.take_of_length_le (by have := HN.out; omega))
      go_wp2_with fail
      go_ret
      exact ⟨_, rfl, by rw [show chgT x.ts = chgT (x.ts.take r) by rw [HF.out]]; exact HO.out, HB.out⟩
/-- what apply gives -/
def LayRet (B : Nat) (w : World) (us : List Ru) (e : Ending) (w' : World) : Prop := ∃ v L, e = .returned v ∧ L.map (·.u) = us ∧ OL B v L w' ∧ Below w.heap.size w w'
theorem OL.ins {w w' : World} {v : Value} {L : List Rm} {B : Nat} (h : InS w v L w') (hb : B ≤ w.heap.size) : OL B v L w' := ⟨h.1.mono hb, fun y hy => (h.2.1 y hy).mono hb⟩
set_option maxHeartbeats 2000000 in
set_option maxRecDepth 100000 in
theorem un_apply (v : Value) (l : List Rm) (vm : Value) (ms : List Mm) (B : Nat) (hlen : l.length + ms.length ≤ 40000) (hwl : WfRL l) (hwm : WfML ms) (w : World) (hl : OL B v l w) (hm : KLies KM vm ms w) (hi : ∀ m ∈ ms, InM m w) (hB : B ≤ w.heap.size) (ht : Tab w) (hz : 0 < w.heap.size) :
    Calls Tryz.prog 42 #[v, vm] w (LayRet B w (layL (l.map (·.u)) (ms.map (·.u)))) := by
  obtain ⟨p1, c1, rfl⟩ := hm.form
  have HM := Lib.hid (And.intro hm hi)
  have HL := Lib.hid hl
  have HW := Lib.hid (And.intro (WfUL.of hwl) hwm)
  have HE := Lib.hid (Env.start ht hz)
  have HBB := Lib.hid hB
  have HLN := Lib.hid hlen
  have hml : ms.length ≤ 40000 := by omega
  obtain ⟨n, hn⟩ : ∃ n, n = ms.length := ⟨_, rfl⟩
  have HN := Lib.hid hn
  rw [← hn] at hml HM ⊢
  clear hm hi hl hwl hwm ht hB hlen hn
  go_enter Tryz.func42, Tryz.ntmps42
  go_wp2_with fail
  go_loopg [0, 11] n (fun k s0 s11 wr => ∃ (r : Nat) (L : List Rm), r + k = n ∧ s11 = .int .i64 r ∧ OL B s0 L wr ∧ L.map (·.u) = layL (l.map (·.u)) ((ms.take r).map (·.u)) ∧ Env w wr)
  case atStart => exact ⟨0, l, by omega, rfl, HL.out, rfl, HE.out⟩
  case round =>
    clear HL HE
    obtain ⟨r, L, hr, rfl, ho, hu, he⟩ := hrel
    have HO := Lib.hid ho
    have HUL := Lib.hid hu
    have HE := Lib.hid he
    obtain ⟨p0, c0, e0⟩ := ho.1.form
    subst e0
    clear ho hu he
    by_cases hlt : r < n
    · have hltI : (r : Int) < (n : Int) := by omega
      obtain ⟨m, hm⟩ := lt_some (l := ms) (i := r) (by have := HN.out; omega)
      obtain ⟨b, o, rfl, hrg⟩ := (HM.out.1.below okM HE.out.kept).at hm
      have HR := Lib.hid hrg
      have HX := Lib.hid hm
      have HI := Lib.hid ((HM.out.2 m (List.mem_of_getElem? hm)).below HE.out.kept)
      have HWm := Lib.hid (HW.out.2 m (List.mem_of_getElem? hm))
      have HTK := Lib.hid (show layL (l.map (·.u)) ((ms.take (r + 1)).map (·.u)) = lay1 (L.map (·.u)) m.u by
        rw [List.take_add_one, hm, List.map_append, HUL.out]
        exact layL_snoc _ _ _)
      have HWL := Lib.hid (show WfRL L from (layL_wf HW.out.1 fun y hy => by
        obtain ⟨z, hz, rfl⟩ := List.mem_map.1 hy
        exact HW.out.2 z (List.mem_of_mem_take hz)).rl HUL.out)
      have HLL := Lib.hid (show L.length ≤ 50000 by
        have h1 := congrArg List.length HUL.out
        have h2 := layL_len ((ms.take r).map (·.u)) (l.map (·.u))
        simp only [List.length_map, List.length_take] at h1 h2
        have := HLN.out
        omega)
      clear hrg hm
      go_upto_region 4 with (first
        | (refine wpList_load_mid rfl 40 _ rfl b (o + r * 31) rfl (mcl m) _ HR.out Tryz.underlying40 rfl infoMod ?_)
        | (refine wpList_store_row rfl 40 _ _ rfl wr.heap.size (mca m) rfl rfl 40 _ (heap_alloc_new _ _) (by kernel_rfl) rfl (mca_one _) ?_; rw [World.setRow_alloc_new]))
      have RX := Lib.hid (Blk.new wr (mca m) 40)
      have HBW := Lib.hid (below1 wr (.cells (mca m) 40))
      have HO1 := Lib.hid (HO.out.below HBW.out)
      have HE1 := Lib.hid (HE.out.below HBW.out)
      have HI1 := Lib.hid (HI.out.below HBW.out)
      clear HR HO HE HI HBW
      generalize hW1 : wr.alloc (.cells (mca m) 40) = W1 at *
      clear hW1
      by_cases hk : applyE (L.map (·.u)) m.u bigI = 0
      · have HA := Lib.hid (apply_at (.slice p0 L.length c0) L HLL.out HWL.out m HWm.out bigI W1 HO1.out.lies HI1.out HE1.out.tab HE1.out.lt (L.map (·.u)) rfl 0 (lay1 (L.map (·.u)) m.u) hk (by unfold lay1; rw [if_pos hk]; exact appV_ok hk))
        clear hk
        go_wp2_with (first
          | (refine wpList_load_row rfl 40 _ rfl wr.heap.size rfl 40 (mca m) (0, 0) _ RX.out Tryz.underlying40 rfl infoMod ?_)
          | (go_at_call 75; refine HA.out.mono ?_; rintro e w2 ⟨v2, L2, rfl, hu2, hi2⟩; refine Hid.out ?_))
        have HO2 := Lib.hid (OL.ins hi2 (show B ≤ W1.heap.size by have := HE1.out.kept.size; have := HBB.out; omega))
        have HU2 := Lib.hid (hu2.trans HTK.out.symm)
        have HE2 := Lib.hid (HE1.out.below hi2.2.2)
        obtain ⟨p2, c2, e2⟩ := hi2.1.form
        subst e2
        clear hu2 hi2 HA HO1 HE1 RX HI1
        refine Lib.hid ?_
        go_wp2_with fail
        go_roundg (n - (r + 1))
        case measure => omega
        case rel => exact ⟨r + 1, L2, by omega, by go_num, HO2.out, HU2.out, HE2.out⟩
      · have HK := Lib.hid (show L.map (·.u) = layL (l.map (·.u)) ((ms.take (r + 1)).map (·.u)) by rw [HTK.out]; unfold lay1; rw [if_neg hk])
        obtain ⟨kk, hkk⟩ : ∃ kk, kk = applyE (L.map (·.u)) m.u bigI := ⟨_, rfl⟩
        rw [← hkk] at hk
        have hkf : (kk == 0) = false := by simpa using hk
        have HA := Lib.hid (apply_at (.slice p0 L.length c0) L HLL.out HWL.out m HWm.out bigI W1 HO1.out.lies HI1.out HE1.out.tab HE1.out.lt (L.map (·.u)) rfl kk _ hkk.symm rfl)
        clear hkk hk
        go_wp2_with (first
          | (refine wpList_load_row rfl 40 _ rfl wr.heap.size rfl 40 (mca m) (0, 0) _ RX.out Tryz.underlying40 rfl infoMod ?_)
          | (go_at_call 75; refine HA.out.mono ?_; rintro e w2 ⟨v2, L2, rfl, hu2, hi2⟩; refine Hid.out ?_))
        have HO2 := Lib.hid (HO1.out.below hi2.2.2)
        have HE2 := Lib.hid (HE1.out.below hi2.2.2)
        clear hu2 hi2 HA HO1 HE1 RX HI1
        refine Lib.hid ?_
        go_wp2_with fail
        go_roundg (n - (r + 1))
        case measure => omega
        case rel => exact ⟨r + 1, L, by omega, by go_num, HO2.out, HK.out, HE2.out⟩
    · have hltI : ¬ (r : Int) < (n : Int) := by omega
      have HF := Lib.hid (show ms.take r = ms from List.take_of_length_le (by have := HN.out; omega))
      go_wp2_with fail
      go_ret
      exact ⟨_, L, rfl, by rw [HUL.out, HF.out], HO.out, HE.out.kept⟩
/-- a unit whose numbers are in their ranges, and that is not too large -/
structure FitM (n : Nat) (x : Um) : Prop where
  fit : Fit n x.un
  n : n ≤ 9000
section
variable {n : Nat} {x : Um}
theorem FitM.wfR (h : FitM n x) : WfRL x.L := (show WfUL (x.L.map (·.u)) from h.fit.base).rl rfl
theorem FitM.len (h : FitM n x) : (chgT x.ts).length ≤ 9000 ∧ x.ts.length ≤ 9000 ∧ x.L.length + (chgT x.ts).length ≤ 9000 := by
  have h1 := h.fit.size
  have h2 := h.fit.opn
  have h3 := h.n
  have e : (chgO x.un.opn).length = (chgT x.ts).length := by
    show (chgO (x.ts.map (·.tx))).length = _
    rw [← chgT_u, List.length_map]
  rw [e] at h1
  simp only [Um.un, List.length_map] at h1 h2
  omega
theorem FitM.wfM (h : FitM n x) : WfML (chgT x.ts) := fun m hm => h.fit.chg m.u (by
  show m.u ∈ chgO (x.ts.map (·.tx))
  rw [← chgT_u]
  exact List.mem_map_of_mem hm)
theorem view_un (x : Um) : layL (x.L.map (·.u)) ((chgT x.ts).map (·.u)) = x.un.view := by
  rw [chgT_u]
  rfl
end
set_option maxHeartbeats 1000000 in
theorem un_view (x : Um) (B k : Nat) (hF : FitM k x) (w : World) (h : UniA B x w) (ht : Tab w) (hz : 0 < w.heap.size) :
    Calls Tryz.prog 36 #[.pointer (some ⟨x.p, 0, none⟩)] w (LayRet B w x.un.view) := by
  obtain ⟨pb, cb, hvb⟩ := h.base.1.form
  have HVB := Lib.hid hvb
  have HU := Lib.hid (h.below (Below.refl _ w).drew)
  have HE := Lib.hid ((Env.start ht hz).drew)
  have HLC := Lib.hid (show (chgT x.ts).length ≤ 100000 ∧ x.ts.length ≤ 100000 by have := hF.len; omega)
  have HNB := Lib.hid (show x.L.length + (chgT x.ts).length ≤ 40000 by have := hF.len; omega)
  have HWB := Lib.hid hF.wfR
  have HWC := Lib.hid hF.wfM
  clear h ht hvb hF
  rw [← view_un]
  go_enter Tryz.func36, Tryz.ntmps36
  go_upto_region 1 with fail
  refine wp_region_held_drew (S := fun W' => W'.cell? ⟨x.p, 1, none⟩ = some (.slice pb x.L.length cb)) (by kernel_rfl) (by rw [← HVB.out]; exact HU.out.vb_) (fun hS => ?_)
  generalize w.drew = W at *
  refine seqRead 0 (v := _) rfl (by kernel_rfl) (by kernel_rfl) (by kernel_rfl) (fun _ _ _ h => h) rfl (fun w hSw => by go_simp <;> with_reducible rfl) hS ?_
  try simp only [Act.put, List.setIfInBounds_toArray, List.set_cons_zero, List.set_cons_succ]
  refine seqRead 1 (v := _) rfl (by kernel_rfl) (by kernel_rfl) (by kernel_rfl) (fun _ _ _ h => h) rfl (fun w hSw => by go_simp <;> with_reducible rfl) hS ?_
  try simp only [Act.put, List.setIfInBounds_toArray, List.set_cons_zero, List.set_cons_succ]
  refine seqRead 2 (v := _) rfl (by kernel_rfl) (by kernel_rfl) (by kernel_rfl) (fun _ _ _ h => h) rfl (fun w hSw => by go_simp <;> with_reducible rfl) hS ?_
  try simp only [Act.put, List.setIfInBounds_toArray, List.set_cons_zero, List.set_cons_succ]
  refine seqRead 3 (v := _) rfl (by kernel_rfl) (by kernel_rfl) (by kernel_rfl) (fun _ _ _ h => h) rfl (fun w hSw => by have c0 := hSw; go_simp <;> with_reducible rfl) hS ?_
  try simp only [Act.put, List.setIfInBounds_toArray, List.set_cons_zero, List.set_cons_succ]
  refine seqRead 4 (v := _) rfl (by kernel_rfl) (by kernel_rfl) (by kernel_rfl) (fun _ _ _ h => h) rfl (fun w hSw => by go_simp <;> with_reducible rfl) hS ?_
  try simp only [Act.put, List.setIfInBounds_toArray, List.set_cons_zero, List.set_cons_succ]
  refine seqCall 5 rfl (by kernel_rfl) rfl (fun K hK => ?_)
  go_simp
  refine (un_changes x B HLC.out W HU.out).mono ?_
  rintro e w1 ⟨vc, rfl, hvc, hw1⟩
  have HVC := Lib.hid hvc
  have HB1 := Lib.hid hw1
  have HU1 := Lib.hid (HU.out.below hw1)
  have HE1 := Lib.hid (HE.out.below hw1)
  refine hK.out _ _ ((hw1.cell (p := ⟨x.p, 1, none⟩) HU.out.lt).trans hS) (fun hS => ?_)
  clear hK K hvc hw1
  try simp only [Act.put, List.setIfInBounds_toArray, List.set_cons_zero, List.set_cons_succ]
  refine seqCall 6 rfl (by kernel_rfl) rfl (fun K hK => ?_)
  go_simp
  refine (un_apply (.slice pb x.L.length cb) x.L vc (chgT x.ts) B HNB.out HWB.out HWC.out w1 (by rw [← HVB.out]; exact HU1.out.base) (HVC.out.lies okM) (chgT_in HU1.out) (by have := HU1.out.lt; have := HU1.out.ge; omega) HE1.out.tab HE1.out.lt).mono ?_
  rintro e w2 ⟨v2, L2, rfl, hu2, ho2, hw2⟩
  refine hK.out _ _ ((hw2.cell (p := ⟨x.p, 1, none⟩) HU1.out.lt).trans hS) (fun hS => ?_)
  have HR := Lib.hid (And.intro hu2 (And.intro ho2 (HE1.out.below hw2).kept))
  clear hK K hu2 ho2 hw2
  try simp only [Act.put, List.setIfInBounds_toArray, List.set_cons_zero, List.set_cons_succ]
  refine seqRead 7 (v := _) rfl (by kernel_rfl) (by kernel_rfl) (by kernel_rfl) (fun _ _ _ h => h) rfl (fun w hSw => by go_simp <;> with_reducible rfl) hS ?_
  try simp only [Act.put, List.setIfInBounds_toArray, List.set_cons_zero, List.set_cons_succ]
  refine seqDone (by kernel_rfl) ?_
  clear hS
  go_wp2_with fail
  go_ret
  exact ⟨_, L2, rfl, HR.out.1, HR.out.2.1, HR.out.2.2⟩
end Go.Proofs.YtomnpfbebimpkaaGreatDoor
