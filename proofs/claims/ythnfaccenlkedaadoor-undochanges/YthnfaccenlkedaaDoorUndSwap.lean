/-
  The walk of swap of package undo.
-/
import Derived.Test.YthnfaccenlkedaaDoorUndFun
import Derived.Test.YthnfaccenlkedaaDoorPackSort
import Derived.Test.YthnfaccenlkedaaDoorPackRuleB
import Derived.Test.YthnfaccenlkedaaDoorPackModB
namespace Go.Proofs.YthnfaccenlkedaaDoor
set_option maxRecDepth 20000
open Go.RowKit

/-- what swap gives: the error, a list of one's own -/
def SwpRet (w : World) (us gs cs : List Ru) (e : Ending) (w' : World) : Prop := ∃ v L, e = .returned (.tuple #[v, .int .i64 (swapE us gs cs)]) ∧ L.map (·.u) = swapV us gs cs ∧ InS w v L w'
theorem SwpRet.no {w W : World} {us gs cs : List Ru} {n : Int} (h : swapE us gs cs = n) (hn : n ≠ 0) (hb : Below w.heap.size w W) : SwpRet w us gs cs (.returned (.tuple #[.slice none 0 0, .int .i64 n])) W :=
  ⟨.slice none 0 0, [], by rw [h], by unfold swapV; rw [if_neg (by rw [h]; exact hn)]; rfl, KOwns.nil _ _, fun y hy => (by cases hy), hb⟩
/-- the three lists -/
def SwS (w0 : World) (v : Value) (l : List Rm) (vg : Value) (g : List Rm) (vc : Value) (c : List Rm) (W : World) : Prop := RLies v l W ∧ RLies vg g W ∧ RLies vc c W ∧ Env w0 W
theorem SwS.below {w0 : World} {v vg vc : Value} {l g c : List Rm} {W W' : World} (hb : Below W.heap.size W W') (h : SwS w0 v l vg g vc c W) : SwS w0 v l vg g vc c W' := ⟨h.1.below hb, h.2.1.below hb, h.2.2.1.below hb, h.2.2.2.below hb⟩
section
variable {l g c L : List Rm}
theorem srt_tab {us : List Ru} (h : tabU us = true) : Srt rOrd us := ((tabU_iff us).1 h).2
theorem all_alone (l g : List Rm) : g.all (eqB l) = (aloneL (g.map (·.u)) (l.map (·.u))).isEmpty := by
  unfold aloneL
  induction g with
  | nil => rfl
  | cons a g ih =>
    rw [List.all_cons, ih, List.map_cons, List.filter_cons]
    show (inL a.u (l.map (·.u)) && _) = _
    cases inL a.u (l.map (·.u)) <;> simp
theorem filt_alone (l g : List Rm) : (l.filter fun r => !eqB g r).map (·.u) = aloneL (l.map (·.u)) (g.map (·.u)) := by
  unfold aloneL
  rw [List.filter_map]
  rfl
theorem any_clash (l c : List Rm) : c.any (plB l) = clash (l.map (·.u)) (c.map (·.u)) := by
  unfold clash
  rw [Bool.eq_iff_iff, List.any_eq_true, List.any_eq_true]
  constructor
  · rintro ⟨y, hy, h⟩
    unfold plB at h
    obtain ⟨x, hx, hk⟩ := List.any_eq_true.1 h
    exact ⟨x.u, List.mem_map_of_mem hx, List.any_eq_true.2 ⟨y.u, List.mem_map_of_mem hy, hk⟩⟩
  · rintro ⟨a, ha, h⟩
    obtain ⟨b, hb, hk⟩ := List.any_eq_true.1 h
    obtain ⟨x, hx, rfl⟩ := List.mem_map.1 ha
    obtain ⟨y, hy, rfl⟩ := List.mem_map.1 hb
    exact ⟨y, hy, List.any_eq_true.2 ⟨x, hx, hk⟩⟩
end
section
variable {us gs cs : List Ru}
theorem swapE_form (h : (tabU us && (tabU gs && tabU cs)) = false) : swapE us gs cs = 2 := by unfold swapE; rw [if_pos h]
theorem swapE_none (h : (tabU us && (tabU gs && tabU cs)) = true) (h1 : (aloneL gs us).isEmpty = false) : swapE us gs cs = 4 := by unfold swapE; rw [if_neg (by rw [h]; decide), if_pos h1]
theorem swapE_there (h : (tabU us && (tabU gs && tabU cs)) = true) (h1 : (aloneL gs us).isEmpty = true) (h2 : clash (aloneL us gs) cs = true) : swapE us gs cs = 5 := by
  unfold swapE; rw [if_neg (by rw [h]; decide), if_neg (by rw [h1]; decide), if_pos h2]
theorem swapE_ok (h : (tabU us && (tabU gs && tabU cs)) = true) (h1 : (aloneL gs us).isEmpty = true) (h2 : clash (aloneL us gs) cs = false) : swapE us gs cs = 0 := by
  unfold swapE; rw [if_neg (by rw [h]; decide), if_neg (by rw [h1]; decide), if_neg (by rw [h2]; decide)]
end
/-- a table that a call made, as a list of one's own -/
theorem CpS.ins {w : World} {g : Nat} {L : List Rm} {W : World} (h : CpS w.heap.size w g L.length L W) : InS w (.slice (some ⟨g, 0, none⟩) L.length L.length) L W :=
  ⟨KAt.owns okR h.1 h.2.2.2, fun y hy => (h.2.1 y hy).mono (by have := h.2.2.2; omega), h.2.2.1⟩
theorem KOwns.blkLt {α : Type} {K : Kd α} {base : Nat} {v : Value} {l : List α} {W : World} (h : KOwns K base v l W) {k : Nat} (hk : v.ownBlock = some k) : k < W.heap.size := by
  rcases h.2 with ⟨e, _⟩ | ⟨g, cap, cur, e, _, e3, _⟩
  · rw [e] at hk; cases hk
  · rw [e] at hk
    injection hk with hk
    have hk' : g = k := hk
    subst hk'
    exact (Array.getElem?_eq_some_iff.1 e3).1
/-- what DeleteFunc keeps meanwhile: a table in a box, all that was there -/
def SdS (w0 : World) (Bx : Nat) (v : Value) (W : World) : Prop := Below w0.heap.size w0 W ∧ Blk Bx #[v] 22 W
theorem SdS.below {w0 : World} {Bx : Nat} {v : Value} {W W' : World} (hb : Below W.heap.size W W') (h : SdS w0 Bx v W) : SdS w0 Bx v W' := ⟨h.1.trans (hb.mono h.1.size), h.2.below hb⟩
theorem SdS.stay {w0 : World} {Bx : Nat} {v : Value} {B : Nat} (h1 : w0.heap.size ≤ B) (h2 : Bx ≠ B) : StayS (SdS w0 Bx v) B where
  below := fun h hb => SdS.below hb h
  put := fun _ vs h => ⟨below_stM h.1 h.1.size h1 vs, (heap_stM_other h2 _ _ _).trans h.2⟩
set_option maxHeartbeats 4000000 in
theorem swap_any (v vg vc : Value) (l g c : List Rm) (hl1 : l.length ≤ 10000) (hg1 : g.length ≤ 10000) (hc1 : c.length ≤ 10000) (hwl : WfRL l) (hwg : WfRL g) (hwc : WfRL c) (w : World) (hl : RLies v l w) (hg : RLies vg g w) (hc : RLies vc c w) (ht : Tab w) (hz : 0 < w.heap.size) :
    Calls Tryd.prog 24 #[v, vg, vc] w (SwpRet w (l.map (·.u)) (g.map (·.u)) (c.map (·.u))) := by
  obtain ⟨p, cap, rfl⟩ := hl.1.form
  obtain ⟨pg, capg, rfl⟩ := hg.1.form
  obtain ⟨pc, capc, rfl⟩ := hc.1.form
  have HS := Lib.hid (show SwS w (.slice p l.length cap) l (.slice pg g.length capg) g (.slice pc c.length capc) c w from ⟨hl, hg, hc, Env.start ht hz⟩)
  have HT1 := Lib.hid (table_any _ l (by omega) hwl w hl ht hz)
  have HTg := Lib.hid (fun W (hS : SwS w (.slice p l.length cap) l (.slice pg g.length capg) g (.slice pc c.length capc) c W) => table_any _ g (by omega) hwg W hS.2.1 hS.2.2.2.tab hS.2.2.2.lt)
  have HTc := Lib.hid (fun W (hS : SwS w (.slice p l.length cap) l (.slice pg g.length capg) g (.slice pc c.length capc) c W) => table_any _ c (by omega) hwc W hS.2.2.1 hS.2.2.2.tab hS.2.2.2.lt)
  rw [tabB_tabU] at HT1 HTg HTc
  have HWL := Lib.hid hwl
  have HWG := Lib.hid hwg
  have HWC := Lib.hid hwc
  obtain ⟨us, hus⟩ : ∃ us, us = l.map (·.u) := ⟨_, rfl⟩
  obtain ⟨gs, hgs⟩ : ∃ gs, gs = g.map (·.u) := ⟨_, rfl⟩
  obtain ⟨cs, hcs⟩ : ∃ cs, cs = c.map (·.u) := ⟨_, rfl⟩
  rw [← hus] at HT1 ⊢
  rw [← hgs] at HTg ⊢
  rw [← hcs] at HTc ⊢
  have HUS := Lib.hid hus
  have HGS := Lib.hid hgs
  have HCS := Lib.hid hcs
  clear hl hg hc hwl hwg hwc ht hus hgs hcs
  cases h1 : tabU us
  · rw [h1] at HT1
    have HR := Lib.hid (swapE_form (us := us) (gs := gs) (cs := cs) (by rw [h1]; rfl))
    clear h1 HTg HTc
    go_enter Tryd.func24, Tryd.ntmps24
    go_wp2_with (go_at_call 18; refine HT1.out.mono ?_; rintro e w1 ⟨rfl, hw1⟩)
    go_ret2
    exact SwpRet.no HR.out (by decide) (HS.out.2.2.2.below hw1).kept
  rw [h1] at HT1
  go_enter Tryd.func24, Tryd.ntmps24
  go_wp2_with (go_at_call 18; refine HT1.out.mono ?_; rintro e w1 ⟨rfl, hw1⟩; refine Hid.out ?_)
  have HS1 := Lib.hid (SwS.below hw1 HS.out)
  have HT2 := Lib.hid (HTg.out w1 HS1.out)
  have H1 := Lib.hid h1
  clear hw1 HT1 HTg HS h1
  cases h2 : tabU gs
  · rw [h2] at HT2
    have HR := Lib.hid (swapE_form (us := us) (gs := gs) (cs := cs) (by rw [h2]; simp))
    clear h2 HTc
    refine Lib.hid ?_
    go_wp2_with (go_at_call 18; refine HT2.out.mono ?_; rintro e w2 ⟨rfl, hw2⟩)
    go_ret2
    exact SwpRet.no HR.out (by decide) (HS1.out.2.2.2.below hw2).kept
  rw [h2] at HT2
  refine Lib.hid ?_
  go_wp2_with (go_at_call 18; refine HT2.out.mono ?_; rintro e w2 ⟨rfl, hw2⟩; refine Hid.out ?_)
  have HS2 := Lib.hid (SwS.below hw2 HS1.out)
  have HT3 := Lib.hid (HTc.out w2 HS2.out)
  have H2 := Lib.hid h2
  clear hw2 HT2 HTc HS1 h2
  cases h3 : tabU cs
  · rw [h3] at HT3
    have HR := Lib.hid (swapE_form (us := us) (gs := gs) (cs := cs) (by rw [h3]; simp))
    clear h3
    refine Lib.hid ?_
    go_wp2_with (go_at_call 18; refine HT3.out.mono ?_; rintro e w3 ⟨rfl, hw3⟩)
    go_ret2
    exact SwpRet.no HR.out (by decide) (HS2.out.2.2.2.below hw3).kept
  rw [h3] at HT3
  have HTT := Lib.hid (show (tabU us && (tabU gs && tabU cs)) = true by rw [H1.out, H2.out, h3]; rfl)
  clear h3
  refine Lib.hid ?_
  go_wp2_with (go_at_call 18; refine HT3.out.mono ?_; rintro e w3 ⟨rfl, hw3⟩; refine Hid.out ?_)
  have HS3 := Lib.hid (SwS.below hw3 HS2.out)
  have HE3 := Lib.hid (eqIn_any p l.length cap w3)
  clear hw3 HT3 HS2
  refine Lib.hid ?_
  go_wp2_with (go_at_call 21; refine HE3.out.mono ?_; rintro e w4 ⟨rfl, hx4, hw4⟩; refine Hid.out ?_)
  have HS4 := Lib.hid (SwS.below hw4 HS3.out)
  have HX4 := Lib.hid hx4
  have HA4 := Lib.hid (all_any 36 #[.pointer (some ⟨w3.heap.size, 0, none⟩)] (eqB l) enEq1 _ g (by omega) w4 HS4.out.2.1.1 (fun W hW r hr =>
    eq1_any w3.heap.size _ l (by omega) (by rw [← HUS.out]; exact srt_tab H1.out) r (HWG.out r hr) W (HX4.out.below hW) (HS4.out.1.below hW) ((HS4.out.2.1.2 r hr).below hW)))
  rw [all_alone, ← HUS.out, ← HGS.out] at HA4
  clear hw4 hx4 HE3 HS3
  cases h4 : (aloneL gs us).isEmpty
  · rw [h4] at HA4
    have HR := Lib.hid (swapE_none HTT.out h4)
    clear h4
    refine Lib.hid ?_
    go_wp2_with (go_at_call 43; refine HA4.out.mono ?_; rintro e w5 ⟨rfl, hw5⟩)
    go_ret2
    exact SwpRet.no HR.out (by decide) (HS4.out.2.2.2.below hw5).kept
  rw [h4] at HA4
  have H4 := Lib.hid h4
  clear h4
  refine Lib.hid ?_
  go_wp2_with (go_at_call 43; refine HA4.out.mono ?_; rintro e w5 ⟨rfl, hw5⟩; refine Hid.out ?_)
  have HS5 := Lib.hid (SwS.below hw5 HS4.out)
  have HC5 := Lib.hid (rclones_any _ l (by omega) w5 HS5.out.1.1)
  clear hw5 HA4 HS4 HX4
  refine Lib.hid ?_
  go_wp2_with (go_at_call 44; refine HC5.out.mono ?_; rintro e w6 ⟨v6, rfl, ho6, hw6⟩; refine Hid.out ?_)
  have HO6 := Lib.hid ho6
  have HB6 := Lib.hid hw6
  have HE6 := Lib.hid (eqIn_any pg g.length capg w6)
  clear ho6 hw6 HC5
  refine Lib.hid ?_
  go_wp2_with (go_at_call 21; refine HE6.out.mono ?_; rintro e w7 ⟨rfl, hx7, hw7⟩; refine Hid.out ?_)
  have HO7 := Lib.hid (HO6.out.below hw7)
  have HD7 := Lib.hid (show SdS w5 w6.heap.size (.slice pg g.length capg) w7 from ⟨HB6.out.trans (hw7.mono HB6.out.size), hx7⟩)
  have HQ7 := Lib.hid (rdl_any 36 #[.pointer (some ⟨w6.heap.size, 0, none⟩)] (eqB g) enEq1 (SdS w5 w6.heap.size (.slice pg g.length capg)) v6 w5.heap.size l (by omega) w7 HO7.out
    (fun B hB => SdS.stay (HO6.out.ge B hB) (fun e => by have := HO6.out.blkLt hB; omega)) (fun h hb => SdS.below hb h)
    (fun W hW r hr => eq1_any w6.heap.size _ g (by omega) (by rw [← HGS.out]; exact srt_tab H2.out) r (HWL.out r hr) W hW.2 (HS5.out.2.1.below hW.1) ((HS5.out.1.2 r hr).below hW.1)) HD7.out)
  clear hw7 hx7 HE6 HB6 HO6
  refine Lib.hid ?_
  go_wp2_with (go_at_call 19; refine HQ7.out.mono ?_; rintro e w8 ⟨v8, rfl, ho8, hd8⟩; refine Hid.out ?_)
  obtain ⟨L, hL⟩ : ∃ L, L = l.filter fun r => !eqB g r := ⟨_, rfl⟩
  rw [← hL] at ho8
  have HL := Lib.hid (show L.map (·.u) = aloneL us gs by rw [hL, filt_alone, ← HUS.out, ← HGS.out])
  have HLl := Lib.hid (show L.length ≤ 10000 by rw [hL]; have := List.length_filter_le (fun r => !eqB g r) l; omega)
  have HLm := Lib.hid (show ∀ r ∈ L, r ∈ l from fun r hr => by rw [hL] at hr; exact (List.mem_filter.1 hr).1)
  have HO8 := Lib.hid ho8
  have HS8 := Lib.hid (SwS.below hd8.1 HS5.out)
  have HR8 := Lib.hid (show RLies v8 L w8 from ⟨ho8.lies okR, fun r hr => HS8.out.1.2 r (HLm.out r hr)⟩)
  obtain ⟨p8, cap8, rfl⟩ := ho8.form
  have HE8 := Lib.hid (keyIn_any p8 L.length cap8 w8)
  clear ho8 hd8 hL HQ7 HO7 HD7 HS5
  refine Lib.hid ?_
  go_wp2_with (go_at_call 46; refine HE8.out.mono ?_; rintro e w9 ⟨rfl, hx9, hw9⟩; refine Hid.out ?_)
  have HS9 := Lib.hid (SwS.below hw9 HS8.out)
  have HR9 := Lib.hid (HR8.out.below hw9)
  have HX9 := Lib.hid hx9
  have HK9 := Lib.hid (rcontains_in 71 #[.pointer (some ⟨w8.heap.size, 0, none⟩)] (plB L) enKey1 _ c (by omega) w9 HS9.out.2.2.1.1 (fun W hW r hr =>
    key1_any w8.heap.size _ L (by have := HLl.out; omega) (by rw [HL.out]; exact srt_tab (alone_tab H1.out)) r W (HX9.out.below hW) (HR9.out.1.below okR hW)))
  rw [any_clash, HL.out, ← HCS.out] at HK9
  clear hw9 hx9 HE8 HS8 HR8 HO8
  cases h5 : clash (aloneL us gs) cs
  · rw [h5] at HK9
    have HR := Lib.hid (swapE_ok HTT.out H4.out h5)
    clear h5
    refine Lib.hid ?_
    go_wp2_with (go_at_call 45; refine HK9.out.mono ?_; rintro e w10 ⟨rfl, hw10⟩; refine Hid.out ?_)
    have HS10 := Lib.hid (SwS.below hw10 HS9.out)
    have HR10 := Lib.hid (HR9.out.below hw10)
    clear hw10 HK9 HS9 HR9 HX9
    refine Lib.hid ?_
    go_wp2_with (refine kbuildV2 rfl (.tmp 36) (.tmp 37) rfl p8 L.length cap8 pc c.length capc rfl rfl ?_; refine Hid.out ?_)
    have HBV := Lib.hid (Blk.new w10 #[.slice p8 L.length cap8, .slice pc c.length capc] 22)
    have HS11 := Lib.hid (SwS.below (below1 w10 (.cells #[.slice p8 L.length cap8, .slice pc c.length capc] 22)) HS10.out)
    have HR11 := Lib.hid (HR10.out.below (below1 w10 (.cells #[.slice p8 L.length cap8, .slice pc c.length capc] 22)))
    clear HS10 HR10
    generalize w10.alloc (.cells #[.slice p8 L.length cap8, .slice pc c.length capc] 22) = W11 at *
    have HCC := Lib.hid (concat_all w10.heap.size _ _ L c (by have := HLl.out; omega) W11 HBV.out HR11.out.1 HS11.out.2.2.1.1)
    refine Lib.hid ?_
    go_wp2_with (go_at_call 48; refine HCC.out.mono ?_; rintro e w12 ⟨v12, rfl, ho12, hw12⟩; refine Hid.out ?_)
    have HS12 := Lib.hid (SwS.below hw12 HS11.out)
    have HR12 := Lib.hid (RLies.app (ho12.lies okR) (HR11.out.below hw12) HS12.out.2.2.1)
    have HWa := Lib.hid (show WfRL (L ++ c) from fun r hr => (List.mem_append.1 hr).elim (fun h => HWL.out r (HLm.out r h)) (HWC.out r))
    have HSo := Lib.hid (rsort_any v12 (L ++ c) (by have := HLl.out; rw [List.length_append]; omega) HWa.out w12 HR12.out HS12.out.2.2.2.tab HS12.out.2.2.2.lt)
    rw [List.map_append, HL.out, ← HCS.out] at HSo
    clear ho12 hw12 HCC HBV HR11
    refine Lib.hid ?_
    go_wp2_with (go_at_call 47; refine HSo.out.mono ?_; rintro e w13 ⟨g13, L13, rfl, hu13, hc13⟩; refine Hid.out ?_)
    have HU13 := Lib.hid hu13
    have HC13 := Lib.hid hc13
    clear hu13 hc13 HSo
    refine Lib.hid ?_
    go_wp2_with fail
    go_ret2
    refine ⟨_, L13, by rw [HR.out]; rfl, ?_, HC13.out.ins.up HS12.out.2.2.2.kept⟩
    unfold swapV swapL
    rw [if_pos HR.out]
    exact HU13.out
  · rw [h5] at HK9
    have HR := Lib.hid (swapE_there HTT.out H4.out h5)
    clear h5
    refine Lib.hid ?_
    go_wp2_with (go_at_call 45; refine HK9.out.mono ?_; rintro e w10 ⟨rfl, hw10⟩)
    go_ret2
    exact SwpRet.no HR.out (by decide) (HS9.out.2.2.2.below hw10).kept
end Go.Proofs.YthnfaccenlkedaaDoor
