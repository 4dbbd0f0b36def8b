/-
  A transaction ended: it is no longer open; its changes.
-/
import Derived.Test.YtomnpfbebimpkaaGreatDoorUniDel
namespace Go.Proofs.YtomnpfbebimpkaaGreatDoor
set_option maxRecDepth 20000
open Go.RowKit

theorem map_erase {α β : Type} (f : α → β) : ∀ (l : List α) (i : Nat), (l.eraseIdx i).map f = (l.map f).eraseIdx i
  | [], _ => rfl
  | _ :: _, 0 => rfl
  | a :: l, i + 1 => by
    show f a :: (l.eraseIdx i).map f = f a :: (l.map f).eraseIdx i
    rw [map_erase f l i]
theorem mutsT_erase : ∀ (ts : List Tm) (i : Nat), (mutsT (ts.eraseIdx i)).Sublist (mutsT ts)
  | [], _ => List.Sublist.refl _
  | _ :: _, 0 => List.sublist_append_right _ _
  | t :: ts, i + 1 => List.Sublist.append (List.Sublist.refl t.mut) (mutsT_erase ts i)
/-- what end gives -/
def EndRet (x : Um) (B : Nat) (id : Int) (w : World) (e : Ending) (w' : World) : Prop :=
  ∃ (v vo' : Value) (ms : List Mm) (ts' : List Tm), e = .returned v ∧ KOwns KM B v ms w' ∧ (∀ m ∈ ms, OwnM B m w') ∧ ms.map (·.u) = endB x.un id ∧ ts'.map (·.tx) = endO x.un id ∧
    UniA B ⟨x.p, x.room, x.vb, x.L, vo', ts', x.fail⟩ w' ∧ UFr x ⟨x.p, x.room, x.vb, x.L, vo', ts', x.fail⟩ w w'
set_option maxHeartbeats 2000000 in
set_option maxRecDepth 100000 in
theorem un_end (x : Um) (B : Nat) (id : Int) (hlen : x.ts.length ≤ 100000) (w : World) (h : UniA B x w) :
    Calls Tryz.prog 43 #[.pointer (some ⟨x.p, 0, none⟩), .int .i64 id] w (EndRet x B id w) := by
  have HP := Lib.hid (un_place x B id hlen w h)
  have HU := Lib.hid h
  rcases kidx_pl x.ts id with ⟨e1, e2⟩ | ⟨i, t, e1, e2, ht, hid⟩
  · rw [e1] at HP
    have HPL := Lib.hid (show ¬ plO x.un.opn id < x.un.opn.length from e2)
    clear e1 e2 h
    go_enter Tryz.func43, Tryz.ntmps43
    go_wp2_with (go_at_call 76; refine HP.out.mono ?_; rintro e w1 ⟨rfl, hw1⟩; refine Hid.out ?_)
    have HU1 := Lib.hid (HU.out.below hw1)
    have HB1 := Lib.hid hw1
    clear hw1 HP HU
    refine Lib.hid ?_
    go_wp2_with fail
    go_ret
    refine ⟨_, x.vo, [], x.ts, rfl, KOwns.nil _ _, fun m hm => (by cases hm), ?_, ?_, HU1.out, UFr.of x HB1.out⟩
    · unfold endB
      rw [if_neg HPL.out]
      rfl
    · unfold endO
      rw [List.eraseIdx_of_length_le (Nat.le_of_not_lt HPL.out)]
      rfl
  · rw [e1] at HP
    have hlt : i < x.ts.length := (List.getElem?_eq_some_iff.1 ht).1
    rcases h.opn.kat okX with ⟨_, h0⟩ | ⟨g, c, hv, hg, _⟩
    · exfalso
      have : x.ts = [] := by simpa using h0
      rw [this] at hlt
      exact absurd hlt (Nat.not_lt_zero _)
    have HV := Lib.hid (show x.vo = .slice (some ⟨g, 0, none⟩) x.ts.length c by rw [hv, List.length_map])
    have HT := Lib.hid ht
    have HPL := Lib.hid e2
    have HG := Lib.hid hg
    obtain ⟨n, hn⟩ : ∃ n, n = x.ts.length := ⟨_, rfl⟩
    have HN := Lib.hid hn
    rw [← hn] at hlen HV hlt
    have hltI : (i : Int) < (n : Int) := by omega
    have hge : ¬ (i : Int) < 0 := by omega
    have hge2 : (0 : Int) ≤ (i : Int) := by omega
    have hiB : (i : Int) ≤ 100000 := by omega
    clear hn e1 e2 ht hid h hv hg
    go_enter Tryz.func43, Tryz.ntmps43
    go_wp2_with (go_at_call 76; refine HP.out.mono ?_; rintro e w1 ⟨rfl, hw1⟩; refine Hid.out ?_)
    have HU1 := Lib.hid (HU.out.below hw1)
    have HB1 := Lib.hid hw1
    have HTA := Lib.hid (HU1.out.txs t (List.mem_of_getElem? HT.out))
    obtain ⟨pv, cv, hvv⟩ := HTA.out.own.form
    have HVV := Lib.hid hvv
    have c2 : w1.cell? ⟨x.p, 2, none⟩ = some (.slice (some ⟨g, 0, none⟩) n c) := by rw [← HV.out]; exact HU1.out.vo_
    have cv1 : w1.cell? ⟨t.b, 1, none⟩ = some (.slice pv t.ms.length cv) := by rw [← HVV.out]; exact HTA.out.v_
    have hrg := (show KLies KX (.slice (some ⟨g, 0, none⟩) n c) (x.ts.map (·.b)) w1 by rw [← HV.out]; exact HU1.out.opn.lies okX).at' (i := i) (a := t.b) (by rw [List.getElem?_map, HT.out]; rfl)
    obtain ⟨c0, c1⟩ := ptrAt hrg
    rw [Nat.zero_add] at c0 c1
    have HD := Lib.hid (un_delete g c B (x.ts.map (·.b)) i (by rw [List.length_map, ← HN.out]; exact hlt) w1 (by have h := HU1.out.opn; rw [HV.out] at h; rw [List.length_map, ← HN.out]; exact h))
    rw [List.length_map, ← HN.out] at HD
    clear hw1 HP HU hrg hvv
    refine Lib.hid ?_
    go_wp2_with (go_at_call 77; refine HD.out.mono ?_; rintro e w2 ⟨m, rfl, ho2, hf2⟩; refine Hid.out ?_)
    have HF2 := Lib.hid hf2
    have HO2 := Lib.hid (show KOwns KX B (.slice (some ⟨g, 0, none⟩) m c) ((x.ts.eraseIdx i).map (·.b)) w2 by rw [map_erase]; exact ho2)
    have HM2 := Lib.hid (show Muts [g] w1 from fun k hk => by
      simp only [List.mem_cons, List.not_mem_nil, or_false] at hk
      subst hk
      exact ⟨_, by decide, HU1.out.opn.typ (by rw [HV.out]; rfl)⟩)
    have HX2 := Lib.hid (show Blk x.p (uca x) 81 w2 from HF2.out.blk HU1.out.box fun hm => by
      simp only [List.mem_cons, List.not_mem_nil, or_false] at hm
      exact HU1.out.notVo (by rw [HV.out, hm]; rfl))
    have HL2 := Lib.hid (HU1.out.base.fr HF2.out HM2.out)
    have HT2 := Lib.hid (show ∀ t ∈ x.ts, TxA B t w2 from fun t ht => (HU1.out.txs t ht).fr HF2.out HM2.out fun k hk hm => by
      simp only [List.mem_cons, List.not_mem_nil, or_false] at hm
      subst hm
      exact HU1.out.voTx (by rw [HV.out]; rfl) (mem_mutsT.2 ⟨t, ht, hk⟩))
    clear ho2 hf2 HD c0 c1 c2 cv1
    have HTH := Lib.hid (show w2.there x.p 2 1 from HX2.out.there (by show 3 ≤ 4; decide))
    have HBX := Lib.hid (HX2.out.one (k := 2) (.slice (some ⟨g, 0, none⟩) m c))
    have HFW := Lib.hid (Fr.cell w2 ⟨x.p, 2, none⟩ (.slice (some ⟨g, 0, none⟩) m c) (M := [x.p]) (by simp))
    refine Lib.hid ?_
    go_wp2_with (refine storeCell rfl 79 _ _ rfl x.p 2 (.slice (some ⟨g, 0, none⟩) m c) rfl rfl rfl HTH.out infoPs ?_; refine Hid.out ?_)
    have HX3 := Lib.hid (show UniA B ⟨x.p, x.room, x.vb, x.L, .slice (some ⟨g, 0, none⟩) m c, x.ts.eraseIdx i, x.fail⟩ (w2.setCell ⟨x.p, 2, none⟩ (.slice (some ⟨g, 0, none⟩) m c)) from
      UniA.wrote (p := x.p) ⟨HX2.out.typ, HU1.out.ge⟩ rfl HBX.out HFW.out HL2.out HO2.out (fun t ht => HT2.out t (List.mem_of_mem_eraseIdx ht)) ((mutsT_erase x.ts i).nodup HU1.out.nod))
    have HUF := Lib.hid (show UFr x ⟨x.p, x.room, x.vb, x.L, .slice (some ⟨g, 0, none⟩) m c, x.ts.eraseIdx i, x.fail⟩ w (w2.setCell ⟨x.p, 2, none⟩ (.slice (some ⟨g, 0, none⟩) m c)) from
      ⟨(Fr.of HB1.out).tr ((HF2.out.mono fun k hk => .inl (by
        simp only [List.mem_cons, List.not_mem_nil, or_false] at hk
        subst hk
        simp only [Um.muts, List.mem_cons, List.mem_append, mem_ownL]
        exact .inr (.inl (by rw [HV.out]; rfl)))).tr (HFW.out.mono fun k hk => .inl (by
        simp only [List.mem_cons, List.not_mem_nil, or_false] at hk
        subst hk
        simp [Um.muts]))), fun k hk => .inl (by
        simp only [Um.muts, List.mem_cons, List.mem_append, mem_ownL] at hk ⊢
        rcases hk with rfl | hk | hk
        · exact .inl rfl
        · exact .inr (.inl (by rw [HV.out]; exact hk))
        · exact .inr (.inr ((mutsT_erase x.ts i).subset hk)))⟩)
    have HTA2 := Lib.hid (HT2.out t (List.mem_of_getElem? HT.out))
    have HMW := Lib.hid (show Muts [x.p] w2 from fun k hk => by
      simp only [List.mem_cons, List.not_mem_nil, or_false] at hk
      subst hk
      exact ⟨_, by decide, HX2.out.typ⟩)
    have HV3 := Lib.hid (show KOwns KM B (.slice pv t.ms.length cv) t.ms (w2.setCell ⟨x.p, 2, none⟩ (.slice (some ⟨g, 0, none⟩) m c)) by
      rw [← HVV.out]
      exact HFW.out.owns HTA2.out.own fun k hk hm => by
        simp only [List.mem_cons, List.not_mem_nil, or_false] at hm
        subst hm
        exact Typ.ne (HTA2.out.own.typ hk) HX2.out.typ (by decide) rfl)
    have HA3 := Lib.hid (show ∀ m' ∈ t.ms, OwnM B m' (w2.setCell ⟨x.p, 2, none⟩ (.slice (some ⟨g, 0, none⟩) m c)) from fun m' hm' => (HTA2.out.acts m' hm').fr HFW.out HMW.out)
    clear HTH HBX HFW HO2 HF2 HM2 HX2 HL2 HT2 HTA HTA2 HMW HU1
    generalize w2.setCell ⟨x.p, 2, none⟩ (.slice (some ⟨g, 0, none⟩) m c) = w3 at *
    refine Lib.hid ?_
    go_wp2_with fail
    go_ret
    refine ⟨_, _, t.ms, x.ts.eraseIdx i, rfl, HV3.out, HA3.out, ?_, ?_, HX3.out, HUF.out⟩
    · have hpl : plO x.un.opn id = i := HPL.out
      have hln : x.un.opn.length = x.ts.length := List.length_map ..
      unfold endB
      rw [hpl, hln, if_pos (by rw [← HN.out]; exact hlt)]
      unfold txO
      rw [show x.un.opn[i]? = some t.tx by show (x.ts.map (·.tx))[i]? = _; rw [List.getElem?_map, HT.out]; rfl]
      rfl
    · have hpl : plO x.un.opn id = i := HPL.out
      unfold endO
      rw [hpl, map_erase]
      rfl
end Go.Proofs.YtomnpfbebimpkaaGreatDoor
