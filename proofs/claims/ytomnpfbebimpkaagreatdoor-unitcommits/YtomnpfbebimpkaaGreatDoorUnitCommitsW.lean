/-
  The walk of UnitCommits: changes that are sent and committed.
-/
import Derived.Test.YtomnpfbebimpkaaGreatDoorPackUniS
import Derived.Test.YtomnpfbebimpkaaGreatDoorModRef
import Derived.Test.YtomnpfbebimpkaaGreatDoorModRAp
namespace Go.Proofs.YtomnpfbebimpkaaGreatDoor
set_option maxRecDepth 20000
open Go.RowKit

/-! ### the model -/
/-- one transaction, its list, was one refused? -/
def ComS (R : Int) (L : List Mu) (r : Bool) (s : Un) : Prop := ∃ q, s = ⟨R, [], q, false⟩ ∧ (q = [] ∧ L = [] ∧ r = false ∨ q = [⟨5, L, r⟩])
def comK (R : Int) (L : List Mu) (r : Bool) (m : Mu) : Int := if r then 0 else judE R [] [⟨5, L, r⟩] m
theorem ok5 : okT 5 := ⟨by decide, by decide⟩
theorem com_opn {R : Int} {L : List Mu} {r : Bool} {s : Un} (h : ComS R L r s) : ∃ q, s = ⟨R, [], q, false⟩ ∧ plO q 5 = 0 ∧ opnO q 5 = [⟨5, L, r⟩] := by
  obtain ⟨q, rfl, ⟨rfl, rfl, rfl⟩ | rfl⟩ := h
  · exact ⟨[], rfl, rfl, rfl⟩
  · have hp : plO [⟨5, L, r⟩] 5 = 0 := by unfold plO; simp [List.findIdx?_cons]
    exact ⟨_, rfl, hp, by unfold opnO; rw [hp, if_pos (by simp)]⟩
theorem com_view {R : Int} {L : List Mu} {r : Bool} {s : Un} (h : ComS R L r s) : s.view = layL [] L := by
  obtain ⟨q, rfl, ⟨rfl, rfl, rfl⟩ | rfl⟩ := h
  · rfl
  · exact view_last [] [] 5 L r
theorem com_step {R : Int} {L : List Mu} {r : Bool} {s : Un} (h : ComS R L r s) {m : Mu} (hm : sndM m = true) :
    takeA s (modM 5 m) = errL 5 (comK R L r m) ∧ ComS R (if r || comK R L r m != 0 then L else L ++ [m]) (r || comK R L r m != 0) (takeS s (modM 5 m)) := by
  obtain ⟨q, rfl, hp, ho⟩ := com_opn h
  have hs : sndMs (modM 5 m) = true := by rw [snd_modM ok5]; exact hm
  have htx : txO [⟨5, L, r⟩] 0 = ⟨5, L, r⟩ := rfl
  have hk : chgE ⟨R, [], q, false⟩ 5 m = comK R L r m := by
    unfold chgE comK
    simp only [hp, ho, htx, Bool.false_eq_true, if_false]
  refine ⟨by rw [takeA_mod hs rfl]; exact congrArg (errL 5) hk, ?_⟩
  rw [takeS_mod hs rfl]
  show ComS R _ _ (chgS ⟨R, [], q, false⟩ 5 m)
  unfold chgS
  rw [hk]
  simp only [hp, ho, htx]
  cases r
  · simp only [Bool.false_eq_true, if_false, Bool.false_or]
    by_cases h0 : comK R L false m = 0
    · rw [if_pos h0, h0]
      exact ⟨_, rfl, .inr rfl⟩
    · rw [if_neg h0, if_pos (by simpa using h0), show (comK R L false m != 0) = true by simpa using h0]
      exact ⟨_, rfl, .inr rfl⟩
  · exact ⟨_, rfl, .inr rfl⟩
theorem com_end {R : Int} {L : List Mu} {r : Bool} {s : Un} (h : ComS R L r s) : takeA s (endM 3 5) = [] ∧ takeS s (endM 3 5) = ⟨R, layL [] L, [], false⟩ := by
  constructor
  · unfold takeA
    rw [snd_endM ok5 (by omega)]
    rfl
  · rw [take_com ok5]
    obtain ⟨q, rfl, ⟨rfl, rfl, rfl⟩ | rfl⟩ := h
    · rfl
    · obtain ⟨e1, e2⟩ := end_at (R := R) (t := 5) (us := []) (o := []) (p := []) (L := L) (r := r) (noT_nil 5)
      rw [List.nil_append] at e1 e2
      show Un.mk R (layL [] (endB ⟨R, [], [⟨5, L, r⟩], false⟩ 5)) (endO ⟨R, [], [⟨5, L, r⟩], false⟩ 5) false = _
      rw [e1, e2]
      rfl
/-- the error that a change is refused with -/
theorem com_err {R : Int} {L : List Mu} {m : Mu} : (applyE (layL [] L) m bigI ≠ 0 → comK R L false m = applyE (layL [] L) m bigI) ∧ (applyE (layL [] L) m bigI = 0 → comK R L false m = 0 ∨ comK R L false m = 3) := by
  have hv : viewO [] [⟨5, L, false⟩] = layL [] L := view_last [] [] 5 L false
  constructor
  · intro h
    unfold comK judE
    rw [hv, if_neg (by decide), if_pos h]
  · intro h
    unfold comK judE
    rw [hv, if_neg (by decide), if_neg (by simp [h])]
    split
    · exact .inr rfl
    · exact .inl rfl
set_option maxHeartbeats 8000000 in
set_option maxRecDepth 100000 in
theorem unitCommits_any (vl : Value) (l : List Mm) (hwl : WfML l) (_ : l.length ≤ 140737488355328) (room : Int) (hr : 0 ≤ room ∧ room < 256) (w : World) (hl : MLies vl l w) (ht : Tab w) (hz : 0 < w.heap.size) :
    Calls Tryz.prog 7 #[vl, .int .u8 room] w fun e w' => e = .returned (.bool true) ∧ Below w.heap.size w w' := by
  obtain ⟨p1, c1, rfl⟩ := hl.1.form
  have HL := Lib.hid hl
  have HWL := Lib.hid hwl
  have HZ := Lib.hid hz
  have HT := Lib.hid ht
  have HANS := Lib.hid (fun (W : World) (hb : Below w.heap.size w W) => answers13 W (ht.below hz hb) (Nat.lt_of_lt_of_le hz hb.size))
  obtain ⟨n1, hn1⟩ : ∃ n1, n1 = l.length := ⟨_, rfl⟩
  have HN1 := Lib.hid hn1
  rw [← hn1] at HL ⊢
  clear hl hwl ht hz hn1
  by_cases h1 : 20 < n1
  · have h1I : (20 : Int) < (n1 : Int) := by omega
    go_enter Tryz.func7, Tryz.ntmps7
    go_wp2_with (go_at_call 11; refine (HANS.out w (Below.refl _ _)).mono ?_; rintro e w1 ⟨rfl, hb⟩)
    go_ret
    exact ⟨rfl, hb⟩
  have h1I : ¬ (20 : Int) < (n1 : Int) := by omega
  go_enter Tryz.func7, Tryz.ntmps7
  have hR0 : 0 ≤ room % 33 := by omega
  have hR1 : room % 33 ≤ 32 := by omega
  have HC := Lib.hid (st_new (room % 33) (room % 33) (by unfold clampR; omega) w w (Below.refl _ _) HT.out HZ.out)
  go_upto_region 4 with (go_at_call 10; refine HC.out.mono ?_; rintro e w1 ⟨rfl, hst, _⟩; refine Hid.out ?_)
  have ST := Lib.hid hst
  clear hst HC hR0 hR1
  obtain ⟨R, hR⟩ : ∃ R, R = room % 33 := ⟨_, rfl⟩
  rw [← hR] at ST ⊢
  clear hR hr
  generalize nilUm w.heap.size R = y0 at *
  refine Lib.hid ?_
  go_upto_region 7 with fail
  go_loopg [8, 6, 7] n1 (fun q s8 s6 s7 wr => ∃ (r : Nat) (y : Um) (s : Un) (L : List Mu) (st : Bool) (Lw : List Rm), r + q = n1 ∧ s8 = .int .i64 r ∧ s7 = .bool st ∧ ComS R L st s ∧ Stt w w.heap.size y s (2 * r) wr ∧ L.length ≤ r ∧ WfMUL L ∧ Lw.map (·.u) = layL [] L ∧ KOwns KR w.heap.size s6 Lw wr ∧ ∀ z ∈ Lw, InA z w)
  case atStart => exact ⟨0, y0, _, [], false, [], by omega, rfl, rfl, ⟨[], rfl, .inl ⟨rfl, rfl, rfl⟩⟩, ST.out, Nat.le_refl _, fun m hm => (by cases hm), rfl, KOwns.nil _ _, fun z hz => (by cases hz)⟩
  case round =>
    obtain ⟨r, y, s, L, st, Lw, hr, rfl, rfl, hcs, hst, hLl, hLw, hwu, hwo, hwa⟩ := hrel
    have HS := Lib.hid hst
    have HCS := Lib.hid hcs
    have HLL := Lib.hid hLl
    have HWU := Lib.hid hLw
    have HU := Lib.hid hwu
    have HO := Lib.hid hwo
    have HA := Lib.hid hwa
    obtain ⟨pw, cw, ew⟩ := hwo.form
    subst ew
    clear hst hcs hLl hLw hwu hwo hwa ST
    have hlw : Lw.length ≤ 9000 := by
      have h1 := congrArg List.length HU.out
      rw [List.length_map] at h1
      have h2 := layL_len L []
      have h3 := HLL.out
      simp only [List.length_nil] at h2
      omega
    by_cases hlt : r < n1
    · have hltI : (r : Int) < (n1 : Int) := by omega
      obtain ⟨m, hm⟩ := lt_some (l := l) (i := r) (by have := HN1.out; omega)
      obtain ⟨b1, o1, rfl, _⟩ := HL.out.1.at hm
      have HM := Lib.hid hm
      have HIM := Lib.hid (HL.out.2 m (List.mem_of_getElem? hm))
      have HWM := Lib.hid (HWL.out m (List.mem_of_getElem? hm))
      clear hm
      have HB := Lib.hid HS.out.bel
      have HB1 := Lib.hid HS.out.bel
      have HMM := Lib.hid (rmod_any m HWM.out wr (HIM.out.below HB.out))
      have c1 := (cellsM_mid ((HL.out.1.below okM HB.out).at' HM.out)).sl
      by_cases a1 : (20 : Int) < (m.n : Int)
      · go_wp2_with (first
          | (refine loadMidG rfl 40 _ rfl b1 (o1 + r * 31) rfl (mcl m) _ ((HL.out.1.below okM HB.out).at' HM.out) Tryz.underlying40 rfl (by rw [mcl_len]; exact infoM) ?_)
          | (go_at_call 25; refine HMM.out.mono ?_; rintro e W1 ⟨rfl, hb1⟩)
          | (go_at_call 11; refine (HANS.out _ HB1.out).mono ?_; rintro e wa ⟨rfl, hba⟩))
        go_ret
        exact ⟨rfl, HB1.out.trans (hba.mono HB1.out.size)⟩
      · cases hsm : sndM m.u
        · go_wp2_with (first
            | (refine loadMidG rfl 40 _ rfl b1 (o1 + r * 31) rfl (mcl m) _ ((HL.out.1.below okM HB.out).at' HM.out) Tryz.underlying40 rfl (by rw [mcl_len]; exact infoM) ?_)
            | (go_at_call 25; refine HMM.out.mono ?_; rintro e W1 ⟨rfl, hb1⟩; have HB2 := Lib.hid (HB1.out.trans (hb1.mono HB1.out.size)); clear hb1 HMM)
            | (go_at_call 11; refine (HANS.out _ HB2.out).mono ?_; rintro e wa ⟨rfl, hba⟩))
          go_ret
          exact ⟨rfl, HB2.out.trans (hba.mono HB2.out.size)⟩
        · have HSM := Lib.hid hsm
          rw [hsm] at HMM
          clear hsm
          go_upto_region 11 with (first
            | (refine loadMidG rfl 40 _ rfl b1 (o1 + r * 31) rfl (mcl m) _ ((HL.out.1.below okM HB.out).at' HM.out) Tryz.underlying40 rfl (by rw [mcl_len]; exact infoM) ?_)
            | (go_at_call 25; refine HMM.out.mono ?_; rintro e W1 ⟨rfl, hb1⟩; refine Hid.out ?_))
          have HS1 := Lib.hid (HS.out.below hb1)
          have HO1 := Lib.hid (HO.out.below hb1)
          clear hb1 HMM HS HO HB HB1 c1
          have HR1 := Lib.hid ((HL.out.1.below okM HS1.out.bel).at' HM.out)
          have HC := Lib.hid (st_given HS1.out 5 HWM.out HIM.out (by omega))
          have HK := Lib.hid (com_step HCS.out HSM.out)
          refine Lib.hid ?_
          go_upto_region 12 with (first
            | (refine wpList_load_mid rfl 40 _ rfl b1 (o1 + r * 31) rfl (mcl m) _ HR1.out Tryz.underlying40 rfl (by rw [mcl_len]; exact infoM) ?_)
            | (refine wpBuilt3 rfl _ _ _ rfl _ _ _ (builtSnd 5 m) rfl rfl rfl ?_)
            | (go_at_call 19; refine HC.out.mono ?_; rintro e W2 ⟨y2, v2, gs, rfl, hgs, hans, hst2, hfr⟩; refine Hid.out ?_))
          have HS2 := Lib.hid hst2
          have HO2 := Lib.hid (hfr.fr.ownsT HS1.out.uni.muts HO1.out notR)
          have hgs2 : gs.map (·.u) = errL 5 (comK R L st m.u) := hgs.trans HK.out.1
          have HN := Lib.hid HK.out.2
          have HANS2 := Lib.hid hans
          clear hgs hans hst2 hfr HC HR1 HS1 HO1 HK HCS
          refine Lib.hid ?_
          cases st
          · -- none was refused
            have hE : applyE (layL [] L) m.u 1000 = applyE (layL [] L) m.u bigI := applyE_room (by have h2 := layL_len L []; have h3 := HLL.out; simp only [List.length_nil] at h2; omega) (by have h2 := layL_len L []; have h3 := HLL.out; simp only [List.length_nil] at h2; unfold bigI; omega)
            have HAP := Lib.hid (rapply_own (.slice pw Lw.length cw) Lw hlw (WfUL.rl (layL_wf (fun u hu => by cases hu) HWU.out) HU.out) m HWM.out 1000 W2 ⟨HO2.out.lies okR, fun z hz => (HA.out z hz).below HS2.out.bel⟩ (HIM.out.below HS2.out.bel) HS2.out.tab HS2.out.hzW)
            have HR2 := Lib.hid ((HL.out.1.below okM HS2.out.bel).at' HM.out)
            have HE := Lib.hid hE
            have HCE := Lib.hid (com_err (R := R) (L := L) (m := m.u))
            clear hE
            by_cases hk : comK R L false m.u = 0
            · -- taken
              rw [hk] at hgs2
              obtain ⟨p2, c2, e2⟩ := HANS2.out.form0 hgs2
              subst e2
              have h0 : applyE (layL [] L) m.u bigI = 0 := by
                by_cases h : applyE (layL [] L) m.u bigI = 0
                · exact h
                · exact absurd (HCE.out.1 h ▸ hk) h
              have h0' : applyE (Lw.map (·.u)) m.u 1000 = 0 := by rw [HU.out, HE.out, h0]
              have HV := Lib.hid (show applyV (Lw.map (·.u)) m.u 1000 = layL [] (L ++ [m.u]) by
                rw [appV_ok h0', layL_snoc, HU.out]
                unfold lay1
                rw [if_pos h0])
              have HN2 := Lib.hid (show ComS R (L ++ [m.u]) false (takeS s (modM 5 m.u)) by have := HN.out; rwa [hk] at this)
              unfold RaO at HAP
              rw [h0'] at HAP
              clear HN hk h0 h0' hgs2 HANS2 HCE HE
              go_upto_region 16 with (first
                | (refine wpList_load_mid rfl 40 _ rfl b1 (o1 + r * 31) rfl (mcl m) _ HR2.out Tryz.underlying40 rfl (by rw [mcl_len]; exact infoM) ?_)
                | (go_at_call 26; refine HAP.out.mono ?_; rintro e W3 ⟨v3, L3, rfl, hu3, ho3, hf3, hb3⟩; refine Hid.out ?_))
              have HS3 := Lib.hid (HS2.out.below hb3)
              have HU3 := Lib.hid (hu3.trans HV.out)
              have HO3 := Lib.hid (ho3.mono HS2.out.bel.size)
              have HA3 := Lib.hid (show ∀ z ∈ L3, InA z w from fun z hz => hf3 z hz w HA.out HIM.out)
              clear hu3 ho3 hf3 hb3 HV HAP HR2 HS2 HO2
              refine Lib.hid ?_
              go_wp2_with fail
              go_roundg (n1 - (r + 1))
              case measure => omega
              case rel => exact ⟨r + 1, y2, _, L ++ [m.u], false, L3, by omega, by go_num, rfl, HN2.out, HS3.out, by rw [List.length_append]; have := HLL.out; simp only [List.length_cons, List.length_nil]; omega, fun a ha => by rcases List.mem_append.1 ha with q | q; exact HWU.out a q; simp only [List.mem_cons, List.not_mem_nil, or_false] at q; subst q; exact HWM.out, HU3.out, HO3.out, HA3.out⟩
            · -- refused
              have hgl : gs.length = 1 := by
                have h1 := congrArg List.length hgs2
                rw [List.length_map] at h1
                unfold errL at h1
                rw [if_neg hk] at h1
                exact h1
              obtain ⟨g1, rfl⟩ : ∃ g1, gs = [g1] := by
                cases gs with
                | nil => cases hgl
                | cons g1 t => cases t with
                  | nil => exact ⟨g1, rfl⟩
                  | cons => simp at hgl
              have hg1 : g1.u = errM 5 (comK R L false m.u) := by
                unfold errL at hgs2
                rw [if_neg hk] at hgs2
                exact (List.cons.inj hgs2).1
              have hgk : g1.kind = 6 := congrArg Ms.kind hg1
              have hge : g1.e = comK R L false m.u := congrArg Ms.e hg1
              obtain ⟨p2, c2, e2⟩ := HANS2.out.1.form
              subst e2
              obtain ⟨b2, o2, rfl, hrg⟩ := (HANS2.out.1.lies okG).at (i := 0) (a := g1) rfl
              have HRG := Lib.hid hrg
              have HGK := Lib.hid hgk
              have HGE := Lib.hid hge
              have HN2 := Lib.hid (show ComS R L true (takeS s (modM 5 m.u)) by have := HN.out; rwa [show (comK R L false m.u != 0) = true by simpa using hk] at this)
              have HK0 := Lib.hid hk
              clear hgl hg1 hgk hge hrg hgs2 HANS2 HN hk
              unfold RaO at HAP
              go_upto_region 16 with (first
                | (refine wpList_load_mid rfl 40 _ rfl b1 (o1 + r * 31) rfl (mcl m) _ HR2.out Tryz.underlying40 rfl (by rw [mcl_len]; exact infoM) ?_)
                | (go_at_call 26; refine HAP.out.mono ?_; rintro e W3 ⟨v3, L3, rfl, _, _, _, hb3⟩; refine Hid.out ?_))
              have HS3 := Lib.hid (HS2.out.below hb3)
              have HO3 := Lib.hid (HO2.out.below hb3)
              have g0 : W3.cell? ⟨b2, o2, none⟩ = some (.int .i64 6) := by
                have := hb3.cell (p := ⟨b2, o2, none⟩) (World.block_lt_of_cell? _ _ (HRG.out 0 (.int .i64 g1.kind) rfl))
                rw [this, ← HGK.out]
                exact HRG.out 0 (.int .i64 g1.kind) rfl
              have g2 : W3.cell? ⟨b2, o2 + 2, none⟩ = some (.int .i64 (comK R L false m.u)) := by
                have := hb3.cell (p := ⟨b2, o2 + 2, none⟩) (World.block_lt_of_cell? _ _ (HRG.out 2 (.int .i64 g1.e) rfl))
                rw [this, ← HGE.out]
                exact HRG.out 2 (.int .i64 g1.e) rfl
              have HEE := Lib.hid (show applyE (Lw.map (·.u)) m.u 1000 = applyE (layL [] L) m.u bigI by rw [HU.out, HE.out])
              clear hb3 HAP HR2 HS2 HO2 HRG HGK HGE HE
              refine Lib.hid ?_
              by_cases h0 : applyE (layL [] L) m.u bigI = 0
              · have hk3 : comK R L false m.u = 3 := (HCE.out.2 h0).elim (fun h => absurd h HK0.out) id
                have hz0 : applyE (Lw.map (·.u)) m.u 1000 = 0 := HEE.out.trans h0
                rw [hz0]
                rw [hk3] at g2
                clear HCE HK0 HEE h0 hk3 hz0
                go_wp2_with fail
                go_roundg (n1 - (r + 1))
                case measure => omega
                case rel => exact ⟨r + 1, y2, _, L, true, Lw, by omega, by go_num, rfl, HN2.out, HS3.out, by have := HLL.out; omega, HWU.out, HU.out, HO3.out, HA.out⟩
              · have hk3 : comK R L false m.u = applyE (Lw.map (·.u)) m.u 1000 := (HCE.out.1 h0).trans HEE.out.symm
                rw [hk3] at g2
                have hzz : applyE (Lw.map (·.u)) m.u 1000 ≠ 0 := by rw [HEE.out]; exact h0
                clear HCE HK0 HEE h0 hk3
                generalize applyE (Lw.map (·.u)) m.u 1000 = E at *
                have z1 : (E == 0) = false := by simpa using hzz
                have z2 : (E != 0) = true := by simpa using hzz
                go_wp2_with fail
                go_roundg (n1 - (r + 1))
                case measure => omega
                case rel => exact ⟨r + 1, y2, _, L, true, Lw, by omega, by go_num, rfl, HN2.out, HS3.out, by have := HLL.out; omega, HWU.out, HU.out, HO3.out, HA.out⟩
          · -- one was refused before
            obtain ⟨p2, c2, e2⟩ := HANS2.out.form0 hgs2
            subst e2
            have HN2 := Lib.hid (show ComS R L true (takeS s (modM 5 m.u)) from HN.out)
            clear HN hgs2 HANS2
            go_wp2_with fail
            go_roundg (n1 - (r + 1))
            case measure => omega
            case rel => exact ⟨r + 1, y2, _, L, true, Lw, by omega, by go_num, rfl, HN2.out, HS2.out, by have := HLL.out; omega, HWU.out, HU.out, HO2.out, HA.out⟩
    · have hltI : ¬ (r : Int) < (n1 : Int) := by omega
      have hrn : r = n1 := by omega
      have HCV := Lib.hid (st_view HS.out)
      rw [com_view HCS.out] at HCV
      have HWQ := Lib.hid (WfUL.rl (layL_wf (fun u hu => by cases hu) HWU.out) HU.out)
      go_upto_region 24 with (first
        | (go_at_call 16; refine HCV.out.mono ?_; rintro e W1 ⟨v1, L1, rfl, hu1, ho1, hb1⟩; refine Hid.out ?_))
      have HS1 := Lib.hid (HS.out.below hb1)
      have HO1 := Lib.hid (HO.out.below hb1)
      have HV1 := Lib.hid hu1
      have HOV := Lib.hid ho1
      have HBV := Lib.hid hb1.size
      clear hu1 ho1 hb1 HCV HS HO
      obtain ⟨q1, d1, e1⟩ := HOV.out.1.form
      subst e1
      have HC := Lib.hid (st_end HS1.out 3 5 (by omega))
      rw [(com_end HCS.out).1, (com_end HCS.out).2] at HC
      refine Lib.hid ?_
      go_upto_region 25 with (first
        | (refine wpBuilt2 rfl _ _ rfl _ _ (builtEnd 3 5) rfl rfl ?_)
        | (go_at_call 19; refine HC.out.mono ?_; rintro e W2 ⟨y2, v2, gs, rfl, hgs, hans, hst2, hfr⟩; refine Hid.out ?_))
      have HS2 := Lib.hid hst2
      have HO2 := Lib.hid (hfr.fr.ownsT HS1.out.uni.muts HO1.out notR)
      have HOV2 := Lib.hid (HOV.out.fr hfr.fr HS1.out.uni.muts)
      obtain ⟨p2, c2, e2⟩ := hans.form0 hgs
      subst e2
      clear hgs hans hst2 hfr HC HS1 HO1 HOV HCS
      have HAN := Lib.hid (HANS.out W2 HS2.out.bel)
      have hl1 : L1.length ≤ 9000 := by
        have h1 := congrArg List.length HV1.out
        have h2 := congrArg List.length HU.out
        rw [List.length_map] at h1 h2
        omega
      refine Lib.hid ?_
      go_wp2_with (first
        | (go_at_call 11; refine HAN.out.mono ?_; rintro e u1 ⟨rfl, hb⟩; have SA := Lib.hid (HS2.out.below hb); have OA := Lib.hid (HO2.out.below hb); have HQ1 := Lib.hid (rsame_eq (.slice q1 L1.length d1) (.slice pw Lw.length cw) L1 Lw (by omega) HWQ.out (HV1.out.trans HU.out.symm) u1 (HOV2.out.below hb).lies ⟨OA.out.lies okR, fun z hz => (HA.out z hz).below SA.out.bel⟩); clear hb HAN)
        | (go_at_call 14; refine HQ1.out.mono ?_; rintro e u2 ⟨rfl, hb⟩; have SB := Lib.hid (SA.out.below hb); have OB := Lib.hid (OA.out.below hb); have HCB := Lib.hid (st_base SB.out); clear hb HQ1)
        | (go_at_call 15; refine HCB.out.mono ?_; rintro e u3 ⟨vb, Lb, rfl, hub, hob, hb⟩; have SC := Lib.hid (SB.out.below hb); have OC := Lib.hid (OB.out.below hb); have HQ2 := Lib.hid (rsame_eq vb (.slice pw Lw.length cw) Lb Lw (by have h1 := congrArg List.length hub; have h2 := congrArg List.length HU.out; rw [List.length_map] at h1 h2; have h3 : Lb.length = (layL [] L).length := h1; omega) HWQ.out (hub.trans HU.out.symm) u3 hob.lies ⟨OC.out.lies okR, fun z hz => (HA.out z hz).below SC.out.bel⟩); clear hub hob hb HCB)
        | (go_at_call 14; refine HQ2.out.mono ?_; rintro e u4 ⟨rfl, hb⟩; have SD := Lib.hid (SC.out.below hb); have HCO := Lib.hid (st_open SD.out); clear hb HQ2)
        | (go_at_call 18; refine HCO.out.mono ?_; rintro e u5 ⟨vo, rfl, hko, hb⟩; obtain ⟨po, co, eo⟩ := hko.form; rw [show (ascL (([] : List Tx).map (·.id))).length = 0 from ascL_len _] at eo; subst eo; have SE := Lib.hid (SD.out.below hb); clear hb hko HCO))
      go_ret
      exact ⟨rfl, SE.out.bel⟩
end Go.Proofs.YtomnpfbebimpkaaGreatDoor
