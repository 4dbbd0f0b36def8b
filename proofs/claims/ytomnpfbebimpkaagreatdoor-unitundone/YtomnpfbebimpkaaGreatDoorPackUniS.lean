/- Several of my texts as one: UniSend, UniStt, UniArg, UniTwin. -/
import Derived.Test.YtomnpfbebimpkaaGreatDoorPackUniP
import Derived.Test.YtomnpfbebimpkaaGreatDoorPackUniM
import Derived.Test.YtomnpfbebimpkaaGreatDoorUndArg
import Derived.Test.YtomnpfbebimpkaaGreatDoorCodArg
/-
  Changes sent to a unit in a transaction.
-/
namespace Go.Proofs.YtomnpfbebimpkaaGreatDoor
set_option maxRecDepth 20000
open Go.RowKit

def sndG (t : Int) (m : Mm) : Gm := ⟨1, t, 0, m, 0, zHd, none, 0, 0, []⟩
def endG (k t : Int) : Gm := ⟨k, t, 0, zMm, 0, zHd, none, 0, 0, []⟩
theorem sndG_u (t : Int) (m : Mm) : (sndG t m).u = modM t m.u := rfl
theorem builtSnd (t : Int) (m : Mm) : Tryz.prog.built 42 [(0, .int .i64 1), (1, .int .i64 t), (3, .agg (mca m))] = some (gca (sndG t m)) := by kernel_rfl
theorem builtEnd (k t : Int) : Tryz.prog.built 42 [(0, .int .i64 k), (1, .int .i64 t)] = some (gca (endG k t)) := by kernel_rfl
theorem wfSnd {t : Int} {m : Mm} (h : WfM m.u) : WfMs (sndG t m).u := ⟨h, wfHd0, fun u hu => (by cases hu)⟩
theorem wfEnd (k t : Int) : WfMs (endG k t).u := ⟨wfZ0, wfHd0, fun u hu => (by cases hu)⟩
theorem inSnd {t : Int} {m : Mm} {W : World} (h : InM m W) : InG (sndG t m) W := ⟨h, rlies_nil _⟩
theorem inEnd (k t : Int) (W : World) : InG (endG k t) W := ⟨zM_in _, rlies_nil _⟩
theorem stEnd (B : Nat) (k t : Int) (W : World) : StM B (endG k t).mod W := .inr (zM_own 0 _)
theorem UFr.old' {B b : Nat} {x x' : Um} {W W' w : World} (h : UFr x x' W W') (hU : UniA B x W) (hbB : b ≤ B) (hb : Below b w W) : Below b w W' :=
  h.fr.below (fun g hg => Nat.le_trans hbB (hU.from g hg)) (by have := hU.lt; have := hU.ge; omega) hb
/-- what send gives -/
def SndRet (x : Um) (B : Nat) (t : Int) (us : List Mu) (w : World) (e : Ending) (w' : World) : Prop :=
  ∃ x' : Um, e = .returned (.tuple #[]) ∧ x'.un = sendS x.un t us ∧ UniA B x' w' ∧ x'.p = x.p ∧ UFr x x' w w'
set_option maxHeartbeats 2000000 in
set_option maxRecDepth 100000 in
theorem un_send (x : Um) (B k : Nat) (hF : FitM k x) (t : Int) (v : Value) (l : List Mm) (hk : k + 2 * l.length ≤ 9000) (hw : ∀ m ∈ l, WfM m.u) (w0 w : World) (hB : w0.heap.size ≤ B) (hb : Below w0.heap.size w0 w) (hl : MLies v l w0) (h : UniA B x w) (ht : Tab w) (hz : 0 < B) :
    Calls Tryz.prog 28 #[.pointer (some ⟨x.p, 0, none⟩), .int .i64 t, v] w (SndRet x B t (l.map (·.u)) w) := by
  obtain ⟨p, c, hv⟩ := hl.1.form
  subst hv
  have HL := Lib.hid hl
  have HS := Lib.hid (show FitM (k + 2 * 0) x ∧ UniA B x w ∧ UFr x x w w ∧ Below w0.heap.size w0 w ∧ Tab w from ⟨hF, h, UFr.refl x w, hb, ht⟩)
  have HW := Lib.hid hw
  have HU := Lib.hid h
  have HB := Lib.hid hB
  have HZ := Lib.hid hz
  have HK := Lib.hid hk
  have hn9 : l.length ≤ 9000 := by omega
  obtain ⟨n, hn⟩ : ∃ n, n = l.length := ⟨_, rfl⟩
  have HN := Lib.hid hn
  rw [← hn] at HL HK hn9 ⊢
  clear hn hl hF h ht hb hw hB hz hk
  go_enter Tryz.func28, Tryz.ntmps28
  go_upto_region 1 with fail
  go_loopg [6] n (fun q s6 wr => ∃ (r : Nat) (y : Um), r + q = n ∧ s6 = .int .i64 r ∧ y.un = sendS x.un t ((l.take r).map (·.u)) ∧ FitM (k + 2 * r) y ∧ UniA B y wr ∧ y.p = x.p ∧ UFr x y w wr ∧ Below w0.heap.size w0 wr ∧ Tab wr)
  case atStart => exact ⟨0, x, by omega, rfl, rfl, HS.out.1, HS.out.2.1, rfl, HS.out.2.2⟩
  case round =>
    obtain ⟨r, y, hr, rfl, hun, hf, hu, hp, hfr, hbw, htb⟩ := hrel
    have HUN := Lib.hid hun
    have HF := Lib.hid hf
    have HY := Lib.hid hu
    have HP := Lib.hid hp
    have HFR := Lib.hid hfr
    have HBW := Lib.hid hbw
    have HT := Lib.hid htb
    clear hun hf hu hp hfr hbw htb HS
    by_cases hlt : r < n
    · have hltI : (r : Int) < (n : Int) := by omega
      obtain ⟨m, hm⟩ := lt_some (l := l) (i := r) (by have := HN.out; omega)
      have hmm := List.mem_of_getElem? hm
      have HML := Lib.hid ((show MLies _ l w0 from HL.out).below HBW.out)
      obtain ⟨bb, o, rfl, hrg⟩ := HML.out.1.at hm
      have HR := Lib.hid hrg
      have HIM := Lib.hid (HML.out.2 m hmm)
      have HST := Lib.hid (show StM B (sndG t m).mod wr from .inl ⟨w0, HB.out, HBW.out, HL.out.2 m hmm⟩)
      have HTK := Lib.hid (un_take y B (k + 2 * r) HF.out (by have := HK.out; omega) (sndG t m) (wfSnd (HW.out m hmm)) wr HY.out (inSnd HIM.out) HST.out HT.out HZ.out)
      rw [HP.out] at HTK
      have HTA := Lib.hid (show (l.take (r + 1)).map (·.u) = (l.take r).map (·.u) ++ [m.u] by rw [List.take_add_one, hm, List.map_append]; rfl)
      have HWM := Lib.hid (HW.out m hmm)
      clear hm hmm hrg HML
      go_upto_region 2 with (first
        | (refine wpList_load_mid rfl 40 _ rfl bb (o + r * 31) rfl (mcl m) _ HR.out Tryz.underlying40 rfl (by rw [mcl_len]; exact infoM) ?_)
        | (refine wpBuilt3 rfl _ _ _ rfl _ _ _ (builtSnd t m) rfl rfl rfl ?_)
        | (go_at_call 19; refine HTK.out.mono ?_; rintro e w1 ⟨y1, v1, g1, rfl, _, _, hun1, hu1, hp1, hf1⟩; refine Hid.out ?_))
      have HUN1 := Lib.hid (show y1.un = sendS x.un t ((l.take (r + 1)).map (·.u)) by rw [HTA.out, sendS_snoc, ← HUN.out, hun1, sndG_u])
      have HF1 := Lib.hid (HF.out.take (wfSnd (t := t) HWM.out) (by have := HK.out; omega) hun1)
      have HY1 := Lib.hid hu1
      have HP1 := Lib.hid (hp1.trans HP.out)
      have HFR1 := Lib.hid (HFR.out.trans hf1)
      have HBW1 := Lib.hid (hf1.old' HY.out HB.out HBW.out)
      have HT1 := Lib.hid (hf1.env HY.out HT.out HZ.out).1
      clear hun1 hu1 hp1 hf1 HUN HF HY HP HFR HBW HT HTK HST HIM
      refine Lib.hid ?_
      go_wp2_with fail
      go_roundg (n - (r + 1))
      case measure => omega
      case rel => exact ⟨r + 1, y1, by omega, by go_num, HUN1.out, HF1.out, HY1.out, HP1.out, HFR1.out, HBW1.out, HT1.out⟩
    · have hltI : ¬ (r : Int) < (n : Int) := by omega
      have hrn : r = n := by omega
      subst hrn
      go_wp2_with fail
      refine bodyPost_end (results_none rfl _ _ _) rfl ?_
      exact ⟨y, rfl, by rw [HUN.out, List.take_of_length_le (Nat.le_of_eq HN.out.symm)], HY.out, HP.out, HFR.out⟩
end Go.Proofs.YtomnpfbebimpkaaGreatDoor

/-
  A unit that a statement made, beside what the statement was given: what every method makes of it.
-/
namespace Go.Proofs.YtomnpfbebimpkaaGreatDoor
set_option maxRecDepth 20000
open Go.RowKit

/-- the cells of a change that lies at a place -/
structure CellsMm (W : World) (b o : Nat) (m : Mm) : Prop where
  mm : W.rangeAt b (o + 1) (cl m.u.m)
  sl : W.cell? ⟨b, o + 26, none⟩ = some (.slice m.q m.n m.c)
theorem cellsM_mid {W : World} {b o : Nat} {m : Mm} (h : W.rangeAt b o (mcl m)) : CellsMm W b o m where
  mm := fun j x hx => by have := h (1 + j) x (mcl_mid m hx); rwa [← Nat.add_assoc] at this
  sl := h 26 _ (mcl_ge m 1)
/-! ### packets and moments leave a unit fit -/
theorem tab_keys {us vs : List Ru} (h : tabU us = true) (e : vs.map kyR = us.map kyR) (hs : ∀ u ∈ vs, sndR u = true) : tabU vs = true := by
  refine (tabU_iff vs).2 ⟨hs, ?_⟩
  have h1 : (us.map kyR).Pairwise fun a b => rOrd a b < 0 := List.pairwise_map.2 ((tabU_iff us).1 h).2
  rw [← e] at h1
  exact List.pairwise_map.1 h1
theorem tab_sub {us vs : List Ru} (h : tabU us = true) (hs : List.Sublist vs us) : tabU vs = true :=
  (tabU_iff vs).2 ⟨fun u hu => ((tabU_iff us).1 h).1 u (hs.subset hu), List.Pairwise.sublist hs ((tabU_iff us).1 h).2⟩
theorem more_pos {a n : Int} (ha : 0 ≤ a) (hn : 0 ≤ n) : 0 ≤ moreI a n := by
  unfold moreI
  split <;> (try split) <;> omega
theorem snd_tick {u : Ru} {n : Int} (hn : 0 ≤ n) (h : sndR u = true) : sndR (tickU n u) = true := by
  unfold sndR at *
  simp only [Bool.and_eq_true, decide_eq_true_eq] at h ⊢
  obtain ⟨h1, h2, h3, h4, h5, h6, h7, h8, h9⟩ := h
  exact ⟨h1, h2, h3, h4, h5, h6, h7, more_pos h8 hn, more_pos h9 hn⟩
theorem snd_hit {u : Ru} (h : sndR u = true) : sndR (hitU u) = true := by
  unfold sndR at *
  simp only [Bool.and_eq_true, decide_eq_true_eq] at h ⊢
  obtain ⟨h1, h2, h3, h4, h5, h6, h7, h8, h9⟩ := h
  exact ⟨h1, h2, h3, h4, h5, h6, more_pos h7 (by decide), Int.le_refl 0, h9⟩
theorem tab_left {us : List Ru} {n : Int} (hn : 0 ≤ n) (h : tabU us = true) : tabU (leftL n us) = true := by
  refine tab_sub (tab_keys (vs := us.map (tickU n)) h ?_ fun u hu => ?_) List.filter_sublist
  · rw [List.map_map]; rfl
  · obtain ⟨x, hx, rfl⟩ := List.mem_map.1 hu
    exact snd_tick hn (((tabU_iff us).1 h).1 x hx)
theorem map_modify_ky : ∀ (us : List Ru) (i : Nat), (us.modify i hitU).map kyR = us.map kyR
  | [], i => by cases i <;> rfl
  | u :: us, 0 => by rw [List.modify_zero_cons]; rfl
  | u :: us, i + 1 => by rw [List.modify_succ_cons, List.map_cons, List.map_cons, map_modify_ky us i]
theorem mem_modify_hit : ∀ (us : List Ru) (i : Nat), ∀ u ∈ us.modify i hitU, u ∈ us ∨ ∃ x ∈ us, u = hitU x
  | [], i, u, h => by cases i <;> cases h
  | x :: us, 0, u, h => by
    rw [List.modify_zero_cons] at h
    rcases List.mem_cons.1 h with rfl | h
    · exact .inr ⟨x, by simp, rfl⟩
    · exact .inl (by simp [h])
  | x :: us, i + 1, u, h => by
    rw [List.modify_succ_cons] at h
    rcases List.mem_cons.1 h with rfl | h
    · exact .inl (by simp)
    · rcases mem_modify_hit us i u h with h | ⟨y, hy, e⟩
      · exact .inl (by simp [h])
      · exact .inr ⟨y, by simp [hy], e⟩
theorem tab_hit {us : List Ru} (i : Int) (h : tabU us = true) : tabU (hitL i us) = true := by
  unfold hitL
  split
  · refine tab_keys h (map_modify_ky us _) fun u hu => ?_
    rcases mem_modify_hit us _ u hu with hu | ⟨x, hx, rfl⟩
    · exact ((tabU_iff us).1 h).1 u hu
    · exact snd_hit (((tabU_iff us).1 h).1 x hx)
  · exact h
section
variable {s : Un} {n : Nat}
theorem Fit.tick (h : Fit n s) (m : Int) : Fit n (tickS s m) :=
  ⟨wf_left h.base (clamp_range m).1 (clamp_range m).2, h.chg, h.ids, by have := h.size; have := left_gone_len (clampN m) s.base; show (leftL (clampN m) s.base).length + (chgO s.opn).length ≤ n; omega, h.opn, tab_left (clamp_range m).1 h.tab, h.snd⟩
theorem Fit.pkt (h : Fit n s) (port : Int) (hd : Nat → Int) : Fit n (pktS s port hd) := by
  unfold pktS
  split
  · exact h
  · split
    · rename_i i _
      exact ⟨wf_hit h.base (i : Int), h.chg, h.ids, Nat.le_trans (Nat.le_of_eq (congrArg (· + (chgO s.opn).length) (hit_len (i : Int) s.base))) h.size, h.opn, tab_hit (i : Int) h.tab, h.snd⟩
    · exact h
theorem Fit.send {t : Int} : ∀ (ms : List Mu) {n : Nat} {s : Un}, Fit n s → WfMUL ms → Fit (n + 2 * ms.length) (sendS s t ms)
  | [], _, _, h, _ => h
  | m :: ms, n, s, h, hw => by
    have h1 := h.take (m := modM t m) ⟨hw m (by simp), wfHd0, fun u hu => (by cases hu)⟩
    have := Fit.send (t := t) ms h1 fun a ha => hw a (by simp [ha])
    rw [sendS_cons]
    exact this.mono (by simp only [List.length_cons]; omega)
end
/-! ### a unit that a statement made -/
/-- w0: where the statement began; B: the unit's box; s: what the unit is -/
structure Stt (w0 : World) (B : Nat) (y : Um) (s : Un) (n : Nat) (W : World) : Prop where
  un : y.un = s
  fit : FitM n y
  uni : UniA B y W
  bel : Below w0.heap.size w0 W
  tab : Tab W
  p : y.p = B
  ge : w0.heap.size ≤ B
  hz : 0 < w0.heap.size
section
variable {w0 W W' : World} {B : Nat} {y y' : Um} {s : Un} {n : Nat}
theorem Stt.hzB (h : Stt w0 B y s n W) : 0 < B := Nat.lt_of_lt_of_le h.hz h.ge
theorem Stt.lt (h : Stt w0 B y s n W) : B < W.heap.size := by have := h.uni.lt; have := h.p; omega
theorem Stt.hzW (h : Stt w0 B y s n W) : 0 < W.heap.size := by have := h.hzB; have := h.lt; omega
theorem Stt.below (h : Stt w0 B y s n W) (hb : Below W.heap.size W W') : Stt w0 B y s n W' :=
  ⟨h.un, h.fit, h.uni.below hb, h.bel.trans (hb.mono h.bel.size), h.tab.below h.hzW hb, h.p, h.ge, h.hz⟩
theorem Stt.next (h : Stt w0 B y s n W) {s' : Un} {m : Nat} (hu : y'.un = s') (hf : Fit m s') (hm : m ≤ 9000) (hU : UniA B y' W') (hp : y'.p = y.p) (k : UFr y y' W W') : Stt w0 B y' s' m W' :=
  ⟨hu, ⟨by rw [hu]; exact hf, hm⟩, hU, k.old' h.uni h.ge h.bel, (k.env h.uni h.tab h.hzB).1, hp.trans h.p, h.ge, h.hz⟩
theorem st_new (room r : Int) (hr : clampR room = r) (w0 w : World) (hb : Below w0.heap.size w0 w) (ht : Tab w) (hz : 0 < w0.heap.size) :
    Calls Tryz.prog 10 #[.int .i64 room] w fun e w' => e = .returned (.pointer (some ⟨w.heap.size, 0, none⟩)) ∧ Stt w0 w.heap.size (nilUm w.heap.size r) ⟨r, [], [], false⟩ 0 w' ∧ Below w.heap.size w w' := by
  subst hr
  refine (un_new room w).mono ?_
  rintro e w' ⟨rfl, hu, hbw⟩
  exact ⟨rfl, ⟨rfl, ⟨⟨fun u hu => (by cases hu), fun u hu => (by cases hu), List.nodup_nil, Nat.le_refl _, Nat.le_refl _, rfl, fun u hu => (by cases hu)⟩, by decide⟩, hu, hb.trans (hbw.mono hb.size), ht.below (by have := hb.size; omega) hbw, rfl, hb.size, hz⟩, hbw⟩
/-- what is given lies where it lay -/
theorem Stt.inM (h : Stt w0 B y s n W) {m : Mm} (hi : InM m w0) : InM m W := hi.below h.bel
theorem Stt.stM (h : Stt w0 B y s n W) {m : Mm} (hi : InM m w0) : StM B m W := .inl ⟨w0, h.ge, h.bel, hi⟩
theorem st_take (h : Stt w0 B y s n W) (g : Gm) (hw : WfMs g.u) (hi : InG g W) (hs : StM B g.mod W) (hn : n + 2 ≤ 9000) :
    Calls Tryz.prog 19 #[.pointer (some ⟨B, 0, none⟩), .agg (gca g)] W fun e w' => ∃ (y' : Um) (v : Value) (gs : List Gm), e = .returned v ∧ gs.map (·.u) = takeA s g.u ∧ AnsL W.heap.size v gs w' ∧ Stt w0 B y' (takeS s g.u) (n + 2) w' ∧ UFr y y' W w' := by
  have hk := un_take y B n h.fit (by omega) g hw W h.uni hi hs h.tab h.hzB
  rw [h.p] at hk
  refine hk.mono ?_
  rintro e w' ⟨y', v, gs, rfl, hg, ha, hun, hu, hp, hf⟩
  rw [h.un] at hg hun
  exact ⟨y', v, gs, rfl, hg, ha, h.next hun (by rw [← h.un]; exact h.fit.fit.take hw) hn hu hp hf, hf⟩
theorem st_given (h : Stt w0 B y s n W) (t : Int) {m : Mm} (hw : WfM m.u) (hi : InM m w0) (hn : n + 2 ≤ 9000) :
    Calls Tryz.prog 19 #[.pointer (some ⟨B, 0, none⟩), .agg (gca (sndG t m))] W fun e w' => ∃ (y' : Um) (v : Value) (gs : List Gm), e = .returned v ∧ gs.map (·.u) = takeA s (modM t m.u) ∧ AnsL W.heap.size v gs w' ∧ Stt w0 B y' (takeS s (modM t m.u)) (n + 2) w' ∧ UFr y y' W w' :=
  st_take h (sndG t m) (wfSnd hw) (inSnd (h.inM hi)) (h.stM hi) hn
theorem st_end (h : Stt w0 B y s n W) (k t : Int) (hn : n + 2 ≤ 9000) :
    Calls Tryz.prog 19 #[.pointer (some ⟨B, 0, none⟩), .agg (gca (endG k t))] W fun e w' => ∃ (y' : Um) (v : Value) (gs : List Gm), e = .returned v ∧ gs.map (·.u) = takeA s (endM k t) ∧ AnsL W.heap.size v gs w' ∧ Stt w0 B y' (takeS s (endM k t)) (n + 2) w' ∧ UFr y y' W w' :=
  st_take h (endG k t) (wfEnd k t) (inEnd k t W) (stEnd B k t W) hn
theorem st_send (h : Stt w0 B y s n W) (t : Int) (v : Value) (l : List Mm) (hk : n + 2 * l.length ≤ 9000) (hw : ∀ m ∈ l, WfM m.u) (hl : MLies v l w0) :
    Calls Tryz.prog 28 #[.pointer (some ⟨B, 0, none⟩), .int .i64 t, v] W fun e w' => ∃ y' : Um, e = .returned (.tuple #[]) ∧ Stt w0 B y' (sendS s t (l.map (·.u))) (n + 2 * l.length) w' ∧ UFr y y' W w' := by
  have hs := un_send y B n h.fit t v l hk hw w0 W h.ge h.bel hl h.uni h.tab h.hzB
  rw [h.p] at hs
  refine hs.mono ?_
  rintro e w' ⟨y', rfl, hun, hu, hp, hf⟩
  rw [h.un] at hun
  have hfit := (by rw [← h.un]; exact h.fit.fit : Fit n s).send (t := t) (l.map (·.u)) fun a ha => by
    obtain ⟨m, hm, rfl⟩ := List.mem_map.1 ha
    exact hw m hm
  rw [List.length_map] at hfit
  exact ⟨y', rfl, h.next hun hfit hk hu hp hf, hf⟩
theorem st_base (h : Stt w0 B y s n W) : Calls Tryz.prog 15 #[.pointer (some ⟨B, 0, none⟩)] W (LayRet W.heap.size W s.base) := by
  have := un_base y B n h.fit W h.uni
  rwa [h.p, h.un] at this
theorem st_view (h : Stt w0 B y s n W) : Calls Tryz.prog 16 #[.pointer (some ⟨B, 0, none⟩)] W (LayRet W.heap.size W s.view) := by
  have := un_View y B n h.fit W h.uni h.tab h.hzW
  rwa [h.p, h.un] at this
theorem st_packet (h : Stt w0 B y s n W) (port : Int) (hd : Nat → Int) (hh : Wf hd) :
    Calls Tryz.prog 20 #[.pointer (some ⟨B, 0, none⟩), .int .i64 port, .agg (hc hd)] W fun e w' => ∃ (y' : Um) (vs va : Value) (gs : List Gm), e = .returned (.tuple #[vs, va, .agg (hpa (pktH s port hd))]) ∧ KOwns KS W.heap.size vs (pktL s port hd) w' ∧ gs.map (·.u) = pktA s port hd ∧ AnsL W.heap.size va gs w' ∧ Stt w0 B y' (pktS s port hd) n w' ∧ UFr y y' W w' := by
  have hs := un_pkt y B n h.fit port hd hh W h.uni h.tab h.hzB
  rw [h.p] at hs
  refine hs.mono ?_
  rintro e w' ⟨y', vs, va, gs, rfl, hk, hg, ha, hun, hu, hp, hf⟩
  rw [h.un] at hk hg hun ⊢
  exact ⟨y', vs, va, gs, rfl, hk, hg, ha, h.next hun (by rw [← h.un]; exact h.fit.fit.pkt port hd) h.fit.n hu hp hf, hf⟩
theorem st_tick (h : Stt w0 B y s n W) (m : Int) :
    Calls Tryz.prog 21 #[.pointer (some ⟨B, 0, none⟩), .int .i64 m] W fun e w' => ∃ (y' : Um) (v : Value) (gs : List Gm), e = .returned v ∧ gs.map (·.u) = tickA s m ∧ AnsL W.heap.size v gs w' ∧ Stt w0 B y' (tickS s m) n w' ∧ UFr y y' W w' := by
  have hs := un_tick y B n h.fit m W h.uni
  rw [h.p] at hs
  refine hs.mono ?_
  rintro e w' ⟨y', v, gs, rfl, hg, ha, hun, hu, hp, hf⟩
  rw [h.un] at hg hun
  exact ⟨y', v, gs, rfl, hg, ha, h.next hun (by rw [← h.un]; exact h.fit.fit.tick m) h.fit.n hu hp hf, hf⟩
theorem st_open (h : Stt w0 B y s n W) : Calls Tryz.prog 18 #[.pointer (some ⟨B, 0, none⟩)] W fun e w' => ∃ v, e = .returned v ∧ KOwns KJ W.heap.size v (ascL (s.opn.map (·.id))) w' ∧ Below W.heap.size W w' := by
  have h1 : y.ts.map (·.tx) = s.opn := congrArg Un.opn h.un
  have h2 : y.ts.map (·.id) = s.opn.map (·.id) := by rw [← h1, List.map_map]; rfl
  have hl : y.ts.length ≤ 9000 := by
    have q1 := h.fit.fit.opn
    have q2 := congrArg List.length h1
    rw [List.length_map] at q2
    rw [h.un] at q1
    have := h.fit.n
    omega
  have := un_open y B hl W h.uni
  rwa [h.p, h2] at this
end
end Go.Proofs.YtomnpfbebimpkaaGreatDoor

/-
  What happens to a unit, in slices that come in, opened.
-/
namespace Go.Proofs.YtomnpfbebimpkaaGreatDoor
set_option maxRecDepth 20000
open Go.ChangeShapes Go.WideShapes Go.ChangeAt Go.RowKit
/-- what happens: which kind, a number, a message, a header -/
structure Xm where
  what : Int
  n : Int
  g : Gm
  h : Nat → Int
def xcl (x : Xm) : List Value := [.int .i64 x.what, .int .i64 x.n] ++ (gcl x.g ++ hl x.h)
def xca (x : Xm) : Array Value := (xcl x).toArray
theorem gcl_len (g : Gm) : (gcl g).length = 48 := by simp [gcl, ghd, gtl, mcl, mtl, cl, hl]
abbrev KE : Kd Xm := ⟨44, 22, 62, 528, xcl⟩
theorem hl_one (h : Nat → Int) : ∀ u ∈ hl h, u.oneCell' = true := fun u hu => by
  simp only [hl, List.mem_cons, List.not_mem_nil, or_false] at hu
  rcases hu with rfl | rfl | rfl | rfl | rfl | rfl | rfl | rfl | rfl | rfl | rfl | rfl <;> rfl
theorem okE : KE.Ok where
  pos := by decide
  len := fun _ => rfl
  one := fun a u hu => by
    rcases List.mem_append.1 (show u ∈ [Value.int .i64 a.what, .int .i64 a.n] ++ (gcl a.g ++ hl a.h) from hu) with h | h
    · simp only [List.mem_cons, List.not_mem_nil, or_false] at h
      rcases h with rfl | rfl <;> rfl
    rcases List.mem_append.1 h with h | h
    · exact okG.one a.g u h
    · exact hl_one a.h u h
  under := Tryz.underlying22
  info := infoOf (by kernel_rfl) (by kernel_rfl) (by kernel_rfl)
  small := by decide
  room1 := by decide
theorem infoX : (Tryz.prog.info? 44).map (·.size) = some 62 := by kernel_rfl
theorem cActX : Tryz.prog.cellsOf 44 = 62 := by kernel_rfl
theorem xactFields : ∃ f0 f1 f2 f3 : Field, Tryz.prog.underlying 44 = some (.struct #[f0, f1, f2, f3]) ∧ (f0.type = 3 ∧ f0.offset = 0) ∧ (f1.type = 3 ∧ f1.offset = 1) ∧ (f2.type = 42 ∧ f2.offset = 2) ∧ (f3.type = 35 ∧ f3.offset = 50) :=
  ⟨_, _, _, _, Tryz.underlying44, ⟨rfl, rfl⟩, ⟨rfl, rfl⟩, ⟨rfl, rfl⟩, ⟨rfl, rfl⟩⟩
structure WfX (x : Xm) : Prop where
  what : I64 x.what
  n : I64 x.n
  g : WfG x.g
  h : Wf x.h
def XLies (v : Value) (l : List Xm) (W : World) : Prop := KLies KE v l W ∧ ∀ x ∈ l, InG x.g W
theorem XLies.below {v : Value} {l : List Xm} {W W' : World} (h : XLies v l W) (hb : Below W.heap.size W W') : XLies v l W' := ⟨h.1.below okE hb, fun x hx => (h.2 x hx).below hb⟩
/-- the cells of one that lies at a place -/
structure CellsX (W : World) (b o : Nat) (x : Xm) : Prop where
  what : W.cell? ⟨b, o, none⟩ = some (.int .i64 x.what)
  n : W.cell? ⟨b, o + 1, none⟩ = some (.int .i64 x.n)
  g : W.rangeAt b (o + 2) (gcl x.g)
  h : W.rangeAt b (o + 50) (hl x.h)
theorem xcl_g (x : Xm) {j : Nat} {v : Value} (h : (gcl x.g)[j]? = some v) : (xcl x)[2 + j]? = some v := by
  unfold xcl
  rw [List.getElem?_append_right (by show 2 ≤ 2 + j; omega)]
  show (gcl x.g ++ hl x.h)[2 + j - 2]? = some v
  rw [show 2 + j - 2 = j by omega, List.getElem?_append_left (List.getElem?_eq_some_iff.1 h).1]
  exact h
theorem xcl_h (x : Xm) {j : Nat} {v : Value} (h : (hl x.h)[j]? = some v) : (xcl x)[50 + j]? = some v := by
  unfold xcl
  rw [List.getElem?_append_right (by show 2 ≤ 50 + j; omega)]
  show (gcl x.g ++ hl x.h)[50 + j - 2]? = some v
  rw [List.getElem?_append_right (by rw [gcl_len]; omega), gcl_len, show 50 + j - 2 - 48 = j by omega]
  exact h
theorem cellsX_mid {W : World} {b o : Nat} {x : Xm} (h : W.rangeAt b o (xcl x)) : CellsX W b o x where
  what := h 0 _ rfl
  n := h 1 _ rfl
  g := fun j v hv => by have := h (2 + j) v (xcl_g x hv); rwa [← Nat.add_assoc] at this
  h := fun j v hv => by have := h (50 + j) v (xcl_h x hv); rwa [← Nat.add_assoc] at this
theorem Blk.rangeX {W : World} {b : Nat} {x : Xm} {t : TypeId} (h : Blk b (xca x) t W) : W.rangeAt b 0 (xcl x) := fun j v hv => by
  rw [Nat.zero_add, cell_of_row W b j _ _ _ h]
  unfold xca
  simpa using hv
theorem xca_size (x : Xm) : (xca x).size = 62 := by simp [xca, xcl, gcl_len, hl]
theorem xca_one (x : Xm) : (xca x).all (·.oneCell') = true := by
  rw [Array.all_eq_true']
  intro v hv
  exact okE.one x v (by simpa [xca] using hv)
section
variable {H : Type} {enc : TypeId × Value → H} {W : World} {base : Nat} {sp : Nat → Bool} {held : Bool}
theorem trod_xact (fuel : Nat) (cs : List Value) (x : DataW H × List MemPlace) (h : DataW.trod enc Tryz.prog W base sp held fuel 44 cs = some x) (hwt : ∀ n ∈ x.1.weights Tryz.prog 44, n ≤ reachBytes) :
    ∃ y : Xm, cs = xcl y ∧ (WfX y ∧ InG y.g W) := by
  obtain ⟨f0, f1, f2, f3, hu, ⟨t0, o0⟩, ⟨t1, o1⟩, ⟨t2, o2⟩, ⟨t3, o3⟩⟩ := xactFields
  obtain ⟨xs, n, _, rfl, hlc, hlen, hf⟩ := DataW.trod_struct hu h
  have hcs : cs.length = 62 := by rw [hlc, cActX]
  have cI : Tryz.prog.cellsOf 3 = 1 := by kernel_rfl
  match xs, hlen with
  | [y0, y1, y2, y3], _ =>
    have h0 := hf 0 f0 rfl
    have h1 := hf 1 f1 rfl
    have h2 := hf 2 f2 rfl
    have h3 := hf 3 f3 rfl
    rw [t0, o0, cI] at h0
    rw [t1, o1, cI] at h1
    rw [t2, o2, cMsg] at h2
    rw [t3, o3, cHead] at h3
    have hw2 : ∀ n ∈ y2.1.weights Tryz.prog 42, n ≤ reachBytes := fun k hk => by
      refine hwt k ?_
      simp only [DataW.weights, hu]
      exact DataW.weights_mem_each (j := 2) (t := 42) (d := y2.1) (by simp [t2]) (by simp) k hk
    obtain ⟨wt, e0, _, w0⟩ := DataW.trod_int Tryz.underlying3 h0
    obtain ⟨nn, e1, _, w1⟩ := DataW.trod_int Tryz.underlying3 h1
    obtain ⟨g, e2, wg, ig⟩ := trod_msg _ _ _ h2 hw2
    obtain ⟨hd, e3, _, wh⟩ := trod_head h3
    rw [hl_hc] at e3
    refine ⟨⟨wt, nn, g, hd⟩, ?_, ⟨i64_of w0, i64_of w1, wg, wf_of wh⟩, ig⟩
    show cs = [.int .i64 wt, .int .i64 nn] ++ (gcl g ++ hl hd)
    have s0 := drop_cons _ _ _ e0
    rw [List.drop_zero] at s0
    have s2 : cs.drop 2 = gcl g ++ cs.drop 50 := by rw [← List.take_append_drop 48 (cs.drop 2), e2, List.drop_drop]
    have s5 : cs.drop 50 = hl hd := by rw [← e3, List.take_of_length_le (by rw [List.length_drop]; omega)]
    rw [s0, drop_cons _ _ _ e1, s2, s5]
    rfl
theorem open_xacts {v : Value} {d : DataW H} {p : List MemPlace} {b : Nat} (hwt : ∀ n ∈ d.weights Tryz.prog 22, n ≤ reachBytes) (hv : Value.okWide Tryz.prog W .any b 22 v) (h : DataW.Trod enc Tryz.prog W base sp held 22 v d p) :
    ∃ l : List Xm, XLies v l W ∧ (∀ x ∈ l, WfX x) ∧ l.length ≤ 140737488355328 := by
  obtain ⟨fuel, hf⟩ := h
  obtain ⟨q, n, c, l, h0, hl, hw, hb⟩ := trod_kind KE okE (fun x => WfX x ∧ InG x.g W) cActX trod_xact hf hwt
  have one : ∀ x : Value, v.cells.toList = [x] → v = x := by
    intro x hx
    simp only [Value.okWide, Tryz.underlying22, Cell.okWide] at hv
    cases v with
    | agg cs => simp [Cell.ok, Tryz.underlying22] at hv
    | _ => simpa [Value.cells] using hx
  have e := one _ h0
  subst e
  have hr := reach_le
  have hbr : Tryz.prog.bytesOf KE.T = 528 := by kernel_rfl
  rw [hbr] at hb
  exact ⟨l, ⟨hl, fun x hx => (hw x hx).2⟩, fun x hx => (hw x hx).1, by omega⟩
end
theorem readXacts : Tryz.prog.readableRec 22 = true := by kernel_rfl
theorem rowXacts : 22 < Tryz.prog.types.size := of_decide_eq_true (by kernel_rfl)
end Go.Proofs.YtomnpfbebimpkaaGreatDoor

/-
  Two units beside each other: one has a transaction open that the other has not.
-/
namespace Go.Proofs.YtomnpfbebimpkaaGreatDoor
set_option maxRecDepth 20000
open Go.RowKit

/-! ### the model -/
/-- nothing is open but one transaction -/
def OneT (t : Int) (us : List Ru) (s : Un) : Prop := ∃ q, s = ⟨32, us, q, false⟩ ∧ (q = [] ∨ ∃ L r, q = [⟨t, L, r⟩])
theorem OneT.base {t : Int} {us : List Ru} {s : Un} (h : OneT t us s) : s.base = us := by obtain ⟨q, rfl, _⟩ := h; rfl
theorem one_opn {t : Int} {us : List Ru} {s : Un} (h : OneT t us s) : ∃ q L r, s = ⟨32, us, q, false⟩ ∧ plO q t = 0 ∧ opnO q t = [⟨t, L, r⟩] := by
  obtain ⟨q, rfl, rfl | ⟨L, r, rfl⟩⟩ := h
  · exact ⟨[], [], false, rfl, rfl, rfl⟩
  · have hp : plO [⟨t, L, r⟩] t = 0 := by unfold plO; simp [List.findIdx?_cons]
    exact ⟨_, L, r, rfl, hp, by unfold opnO; rw [hp, if_pos (by simp)]⟩
theorem one_none {t t' : Int} {us : List Ru} {s : Un} (h : OneT t us s) (ht : t' ≠ t) : endB s t' = [] ∧ endO s t' = s.opn := by
  obtain ⟨q, rfl, rfl | ⟨L, r, rfl⟩⟩ := h
  · exact end_none (noT_nil t')
  · exact end_none fun x hx => by
      simp only [List.mem_cons, List.not_mem_nil, or_false] at hx
      subst hx
      exact fun e => ht e.symm
theorem one_chg {t : Int} {us : List Ru} {s : Un} (h : OneT t us s) (m : Mu) : OneT t us (chgS s t m) := by
  obtain ⟨q, L, r, rfl, hp, ho⟩ := one_opn h
  have htx : txO [⟨t, L, r⟩] 0 = ⟨t, L, r⟩ := rfl
  unfold chgS
  simp only [hp, ho, htx]
  cases r
  · simp only [Bool.false_eq_true, if_false]
    split
    · exact ⟨_, rfl, .inr ⟨L ++ [m], false, rfl⟩⟩
    · exact ⟨_, rfl, .inr ⟨L, true, rfl⟩⟩
  · exact ⟨_, rfl, .inr ⟨L, true, rfl⟩⟩
theorem one_end {t : Int} {us : List Ru} {s : Un} (h : OneT t us s) : endO s t = [] := by
  obtain ⟨q, rfl, rfl | ⟨L, r, rfl⟩⟩ := h
  · exact (end_none (noT_nil t)).2
  · exact (end_at (R := 32) (t := t) (us := us) (o := []) (p := []) (L := L) (r := r) (noT_nil t)).2
/-- a message of that transaction's, but no commit -/
theorem one_take {t : Int} {us : List Ru} {s : Un} (h : OneT t us s) {m : Ms} (ht : m.txn = t) (hk : m.kind ≠ 3) : OneT t us (takeS s m) := by
  unfold takeS
  split
  · exact h
  split
  · rw [ht]; exact one_chg h m.mod
  split
  · rw [ht, one_end h]
    obtain ⟨q, rfl, _⟩ := h
    exact ⟨[], rfl, .inl rfl⟩
  · exact h
/-- a message of another one's, but no change -/
theorem one_other {t : Int} {us : List Ru} {s : Un} (h : OneT t us s) {m : Ms} (ht : m.txn ≠ t) (hk : m.kind ≠ 1) : takeS s m = s := by
  obtain ⟨e1, e2⟩ := one_none h ht
  unfold takeS
  split
  · rfl
  split
  · rw [e1, e2]; rfl
  split
  · rw [e2]
  · rfl
theorem one_other0 {us : List Ru} {m : Ms} (hk : m.kind ≠ 1) : takeS ⟨32, us, [], false⟩ m = ⟨32, us, [], false⟩ :=
  one_other (t := m.txn + 1) (us := us) ⟨[], rfl, .inl rfl⟩ (by omega) hk
theorem one_com {t : Int} (htk : okT t) {us : List Ru} {s : Un} (h : OneT t us s) : ∃ vs, takeS s (endM 3 t) = ⟨32, vs, [], false⟩ := by
  rw [take_com htk, one_end h]
  obtain ⟨q, rfl, _⟩ := h
  exact ⟨_, rfl⟩
theorem one_und {t : Int} (htk : okT t) {us : List Ru} {s : Un} (h : OneT t us s) : takeS s (endM 4 t) = ⟨32, us, [], false⟩ := by
  rw [take_und htk, one_end h]
  obtain ⟨q, rfl, _⟩ := h
  rfl
theorem one_und_no {t : Int} (htk : ¬ okT t) (s : Un) : takeS s (endM 4 t) = s := by
  have : sndMs (endM 4 t) = false := by
    unfold sndMs endM
    have : (decide (0 ≤ t) && decide (t ≤ 4294967295)) = false := by
      rw [Bool.and_eq_false_iff, decide_eq_false_iff_not, decide_eq_false_iff_not]
      unfold okT at htk
      omega
    rw [this, Bool.false_and]
  unfold takeS
  rw [if_pos this]
theorem one_pkt {t : Int} {us : List Ru} {s : Un} (h : OneT t us s) (p : Int) (hd : Nat → Int) : ∃ vs, OneT t vs (pktS s p hd) ∧ pktS ⟨32, us, [], false⟩ p hd = ⟨32, vs, [], false⟩ := by
  obtain ⟨q, rfl, hq⟩ := h
  unfold pktS
  split
  · exact ⟨us, ⟨q, rfl, hq⟩, rfl⟩
  · show ∃ vs, OneT t vs (match fndU (inH p hd) us with | some i => ⟨32, hitL i us, q, false⟩ | none => ⟨32, us, q, false⟩) ∧ (match fndU (inH p hd) us with | some i => (⟨32, hitL i us, [], false⟩ : Un) | none => ⟨32, us, [], false⟩) = ⟨32, vs, [], false⟩
    cases fndU (inH p hd) us with
    | none => exact ⟨us, ⟨q, rfl, hq⟩, rfl⟩
    | some i => exact ⟨_, ⟨q, rfl, hq⟩, rfl⟩
theorem one_tick {t : Int} {us : List Ru} {s : Un} (h : OneT t us s) (n : Int) : OneT t (leftL (clampN n) us) (tickS s n) ∧ tickS ⟨32, us, [], false⟩ n = ⟨32, leftL (clampN n) us, [], false⟩ ∧ tickA s n = tickA ⟨32, us, [], false⟩ n := by
  obtain ⟨q, rfl, hq⟩ := h
  exact ⟨⟨q, rfl, hq⟩, rfl, rfl⟩
/-! ### in memory -/
theorem Stt.mono {w0 W : World} {B n m : Nat} {y : Um} {s : Un} (h : Stt w0 B y s n W) (hn : n ≤ m) (hm : m ≤ 9000) : Stt w0 B y s m W := ⟨h.un, ⟨h.fit.fit.mono hn, hm⟩, h.uni, h.bel, h.tab, h.p, h.ge, h.hz⟩
/-- two units that share no memory -/
structure TwoU (w0 : World) (A : Nat) (x : Um) (s : Un) (B : Nat) (y : Um) (t : Un) (n : Nat) (W : World) : Prop where
  a : Stt w0 A x s n W
  b : Stt w0 B y t n W
  d : ∀ g ∈ x.muts, g ∉ y.muts
section
variable {w0 W W' : World} {A B n m : Nat} {x x' y y' : Um} {s s' t t' : Un}
theorem TwoU.below (h : TwoU w0 A x s B y t n W) (hb : Below W.heap.size W W') : TwoU w0 A x s B y t n W' := ⟨h.a.below hb, h.b.below hb, h.d⟩
theorem TwoU.mono (h : TwoU w0 A x s B y t n W) (hn : n ≤ m) (hm : m ≤ 9000) : TwoU w0 A x s B y t m W := ⟨h.a.mono hn hm, h.b.mono hn hm, h.d⟩
theorem TwoU.onA (h : TwoU w0 A x s B y t n W) (hA : Stt w0 A x' s' m W') (k : UFr x x' W W') (hn : n ≤ m) : TwoU w0 A x' s' B y t m W' := by
  obtain ⟨q1, q2⟩ := k.other h.a.uni h.b.uni h.d
  exact ⟨hA, (⟨h.b.un, h.b.fit, q1, hA.bel, hA.tab, h.b.p, h.b.ge, h.b.hz⟩ : Stt w0 B y t n W').mono hn hA.fit.n, q2⟩
theorem TwoU.swap (h : TwoU w0 A x s B y t n W) : TwoU w0 B y t A x s n W := ⟨h.b, h.a, fun g hg hx => h.d g hx hg⟩
theorem TwoU.onB (h : TwoU w0 A x s B y t n W) (hB : Stt w0 B y' t' m W') (k : UFr y y' W W') (hn : n ≤ m) : TwoU w0 A x s B y' t' m W' := (h.swap.onA hB k hn).swap
theorem TwoU.env (h : TwoU w0 A x s B y t n W) : Below w0.heap.size w0 W := h.a.bel
/-- a second one, just made -/
theorem TwoU.start (hA : Stt w0 A x s n W) (hB : Stt w0 B y t m W') (hb : Below W.heap.size W W') (hB' : B = W.heap.size) (hn : m ≤ n) : TwoU w0 A x s B y t n W' :=
  ⟨hA.below hb, hB.mono hn hA.fit.n, fun g hg hy => by
    have h1 := hA.uni.muts.lt g hg
    have h2 := hB.uni.from g hy
    omega⟩
end
/-- is it not too large? -/
def lightB (x : Xm) : Bool := decide (x.g.n ≤ 40) && decide (x.g.mod.n ≤ 40)
set_option maxHeartbeats 2000000 in
set_option maxRecDepth 100000 in
theorem light_any (x : Xm) (w : World) : Calls Tryz.prog 12 #[.agg (xca x)] w fun e w' => e = .returned (.bool (lightB x)) ∧ Below w.heap.size w w' := by
  have R0 := Lib.hid (Blk.new w (xca x) 44)
  have HB := Lib.hid (below1 w (.cells (xca x) 44))
  go_enter Tryz.func12, Tryz.ntmps12
  go_upto_region 1 with fail
  have c1 : (w.alloc (.cells (xca x) 44)).cell? ⟨w.heap.size, 49, none⟩ = some (.slice x.g.q x.g.n x.g.c) := (cell_of_row _ w.heap.size 49 _ _ _ R0.out).trans rfl
  have c2 : (w.alloc (.cells (xca x) 44)).cell? ⟨w.heap.size, 31, none⟩ = some (.slice x.g.mod.q x.g.mod.n x.g.mod.c) := (cell_of_row _ w.heap.size 31 _ _ _ R0.out).trans rfl
  generalize w.alloc (.cells (xca x) 44) = W at *
  clear R0
  by_cases h1 : x.g.n ≤ 40
  · have h1I : (x.g.n : Int) ≤ 40 := by omega
    by_cases h2 : x.g.mod.n ≤ 40
    · have h2I : (x.g.mod.n : Int) ≤ 40 := by omega
      go_wp2_with fail
      go_ret
      exact ⟨by unfold lightB; simp [h1, h2], HB.out⟩
    · have h2I : ¬ (x.g.mod.n : Int) ≤ 40 := by omega
      go_wp2_with fail
      go_ret
      exact ⟨by unfold lightB; simp [h1, h2], HB.out⟩
  · have h1I : ¬ (x.g.n : Int) ≤ 40 := by omega
    go_wp2_with fail
    go_ret
    exact ⟨by unfold lightB; simp [h1], HB.out⟩
end Go.Proofs.YtomnpfbebimpkaaGreatDoor
