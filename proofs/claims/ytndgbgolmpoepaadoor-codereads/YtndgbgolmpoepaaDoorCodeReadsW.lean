/-
  The walk of the law CodeReads, from what the reference's Decode answers.
-/
import Derived.Test.YtndgbgolmpoepaaDoorCodRdk
namespace Go.Proofs.YtndgbgolmpoepaaDoor
open Go.RowKit

set_option maxRecDepth 100000 in
set_option maxHeartbeats 8000000 in
theorem codeReads_of (hR : RDecOk) (v : Value) (l : List Int) (hb : ByL l) (w : World) (hl : KLies KB v l w) (ht : Tab w) (hz : 0 < w.heap.size) :
    Calls Tryd.prog 4 #[v] w fun e w' => e = .returned (.bool true) ∧ Below w.heap.size w w' := by
  obtain ⟨p, c, rfl⟩ := hl.form
  have HT := Lib.hid (fun (W : World) (hb : Below w.heap.size w W) => Env.of ht hz hb)
  have HL := Lib.hid hl
  have HB := Lib.hid hb
  have HRD := Lib.hid hR
  clear ht hl hb hR
  have HANS := Lib.hid (fun (W : World) (hb : Below w.heap.size w W) => canswers9 W (HT.out W hb).tab (HT.out W hb).lt)
  obtain ⟨N, hN⟩ : ∃ N, N = l.length := ⟨_, rfl⟩
  rw [← hN]
  have HNl := Lib.hid hN
  clear hN
  have HA := Lib.hid (HANS.out w (Below.refl _ _))
  by_cases h1 : 20000 < N
  · have h1I : (20000 : Int) < ((N : Nat) : Int) := by omega
    go_enter Tryd.func4, Tryd.ntmps4
    go_wp2_with (go_at_call 10; refine HA.out.mono ?_; rintro e W3 ⟨rfl, hw2⟩)
    go_ret
    exact ⟨rfl, hw2⟩
  have h1I : ¬ (20000 : Int) < ((N : Nat) : Int) := by omega
  have HNb := Lib.hid (show N ≤ 20000 by omega)
  clear HA h1
  have HO := Lib.hid (KOwns.built (K := KB) w w.heap.size (Nat.le_refl _))
  have HB0 := Lib.hid (below1 w (.cells #[] KB.T))
  have HK6 := Lib.hid (show KLies KB (.slice p N c) l (w.alloc (.cells #[] KB.T)) by rw [HNl.out]; exact HL.out.below okB HB0.out)
  go_enter Tryd.func4, Tryd.ntmps4
  go_wp2_with (first
    | (refine kbuildNone KB okB rfl rfl ?_)
    | (refine kappendB KB okB rfl _ _ rfl w.heap.size _ [] l rfl HO.out _ rfl HK6.out HB0.out.size (by have := HNb.out; have := HNl.out; show (0 + l.length) * 1 ≤ _; omega) (fun v7 W7 ho hg => ?_); refine Hid.out ?_))
  have HO7 := Lib.hid (show KOwns KB w.heap.size v7 l W7 from ho)
  have S7 := Lib.hid (kbelowOwn HB0.out HO.out (Nat.le_refl _) hg)
  clear ho hg HO HB0 HK6
  obtain ⟨es, hes⟩ : ∃ es, es = decE l := ⟨_, rfl⟩
  have HEs := Lib.hid hes
  obtain ⟨dv, hdv⟩ : ∃ dv, dv = decV l := ⟨_, rfl⟩
  have HDv := Lib.hid hdv
  have HC7 := Lib.hid (dec_any v7 l HB.out W7 (HO7.out.lies okB) (HT.out W7 S7.out).tab (HT.out W7 S7.out).lt)
  have HRC := Lib.hid (fun (W : World) (h : Below w.heap.size w W) => HRD.out (.slice p N c) l HB.out (by rw [← HNl.out]; exact HNb.out) W (by rw [HNl.out]; exact HL.out.below okB h))
  rw [← hes, ← hdv] at HC7 HRC
  clear hes hdv HO7
  refine Lib.hid ?_
  go_upto_region 4 with (first
    | (go_at_call 14; refine HC7.out.mono ?_; rintro e W8 ⟨x, rfl, hg, hix, hw⟩; have HGx := Lib.hid hg; have S8 := Lib.hid (S7.out.trans (hw.mono S7.out.size)); have HIx := Lib.hid hix; clear hg hix hw)
    | (refine wpList_store_row rfl 33 _ _ rfl W8.heap.size (gca x) rfl rfl 33 _ (heap_alloc_new _ _) (by kernel_rfl) rfl (gca_one _) ?_; rw [World.setRow_alloc_new]))
  have b8 := below1 W8 (.cells (gca x) 33)
  have S9 := Lib.hid (S8.out.trans (b8.mono S8.out.size))
  have HIx9 := Lib.hid (HIx.out.below b8)
  have Qx9 := Lib.hid (Blk.new W8 (gca x) 33)
  clear S7 S8 HC7 HIx b8
  generalize W8.alloc (.cells (gca x) 33) = W9 at *
  generalize W8.heap.size = Bx at *
  have HC9 := Lib.hid (HRC.out W9 S9.out)
  go_upto_region 5 with (first
    | (go_at_call 19; refine HC9.out.mono ?_; rintro e W10 ⟨y, rfl, hg, hix, hw⟩; have HGy := Lib.hid hg; have S10 := Lib.hid (S9.out.trans (hw.mono S9.out.size)); have HIy := Lib.hid hix; have HIx10 := Lib.hid (HIx9.out.below hw); have Qx10 := Lib.hid (Qx9.out.below hw); clear hg hix hw)
    | (refine wpList_store_row rfl 33 _ _ rfl W10.heap.size (gca y) rfl rfl 33 _ (heap_alloc_new _ _) (by kernel_rfl) rfl (gca_one _) ?_; rw [World.setRow_alloc_new]))
  have b8 := below1 W10 (.cells (gca y) 33)
  have S11 := Lib.hid (S10.out.trans (b8.mono S10.out.size))
  have HIx11 := Lib.hid (HIx10.out.below b8)
  have HIy11 := Lib.hid (HIy.out.below b8)
  have Qx11 := Lib.hid (Qx10.out.below b8)
  have Qy11 := Lib.hid (Blk.new W10 (gca y) 33)
  clear S9 S10 HC9 HIx9 HIx10 HIy Qx9 Qx10 b8 HRC
  generalize W10.alloc (.cells (gca y) 33) = W11 at *
  generalize W10.heap.size = By at *
  have HA := Lib.hid (HANS.out W11 S11.out)
  have hbb : (es != es) = false := by simp
  go_wp2_with (go_at_call 10; refine HA.out.mono ?_; rintro e W12 ⟨rfl, hw⟩; refine Hid.out ?_)
  have S12 := Lib.hid (S11.out.trans (hw.mono S11.out.size))
  have HIx12 := Lib.hid (HIx11.out.below hw)
  have HIy12 := Lib.hid (HIy11.out.below hw)
  have Qx12 := Lib.hid (Qx11.out.below hw)
  have Qy12 := Lib.hid (Qy11.out.below hw)
  clear hw S11 HIx11 HIy11 Qx11 Qy11 HA
  refine Lib.hid ?_
  go_wp2_with (first
    | (refine loadRowG rfl 33 _ rfl Bx rfl 33 (gca x) (0, 0) Qx12.out Tryd.underlying33 rfl (by rw [gca_size]; exact infoG) ?_)
    | (refine kbuildOneG KG okG #[Value.int IntKind.i64 0, Value.int IntKind.i64 0, Value.int IntKind.i64 0, Value.int IntKind.i64 0, Value.int IntKind.u64 0, Value.int IntKind.u64 0, Value.int IntKind.u64 0, Value.int IntKind.u64 0, Value.int IntKind.u64 0, Value.int IntKind.u64 0, Value.int IntKind.u64 0, Value.int IntKind.u64 0, Value.int IntKind.u64 0, Value.int IntKind.u64 0, Value.int IntKind.u64 0, Value.int IntKind.u64 0, Value.int IntKind.u64 0, Value.int IntKind.u64 0, Value.int IntKind.u64 0, Value.int IntKind.u64 0, Value.int IntKind.u64 0, Value.int IntKind.u64 0, Value.int IntKind.u64 0, Value.int IntKind.u64 0, Value.int IntKind.u64 0, Value.int IntKind.u64 0, Value.int IntKind.u64 0, Value.int IntKind.u64 0, Value.int IntKind.i64 0, Value.slice none 0 0, Value.int IntKind.i64 0, Value.int IntKind.i64 0, Value.int IntKind.i64 0, Value.bool false, Value.int IntKind.i64 0, Value.int IntKind.u64 0, Value.int IntKind.u64 0, Value.int IntKind.u64 0, Value.int IntKind.u64 0, Value.int IntKind.u64 0, Value.int IntKind.u64 0, Value.int IntKind.u64 0, Value.int IntKind.u64 0, Value.int IntKind.u64 0, Value.int IntKind.u64 0, Value.int IntKind.u64 0, Value.int IntKind.u64 0, Value.slice none 0 0] zeroG rfl _ rfl (gca x) rfl (by decide) (fillG x) ?_; refine Hid.out ?_))
  have b8 := below1 W12 (.cells (gca x) KG.T)
  have S13 := Lib.hid (S12.out.trans (b8.mono S12.out.size))
  have HIx13 := Lib.hid (HIx12.out.below b8)
  have HIy13 := Lib.hid (HIy12.out.below b8)
  have Qx13 := Lib.hid (Qx12.out.below b8)
  have Qy13 := Lib.hid (Qy12.out.below b8)
  have KX := Lib.hid (show KLies KG (.slice (some ⟨W12.heap.size, 0, none⟩) 1 1) [x] (W12.alloc (.cells (gca x) KG.T)) from oneG x W12)
  clear S12 HIx12 HIy12 Qx12 Qy12 b8
  generalize W12.alloc (.cells (gca x) KG.T) = W13 at *
  generalize W12.heap.size = B12 at *
  refine Lib.hid ?_
  go_wp2_with (first
    | (refine loadRowG rfl 33 _ rfl By rfl 33 (gca y) (0, 0) Qy13.out Tryd.underlying33 rfl (by rw [gca_size]; exact infoG) ?_)
    | (refine kbuildOneG KG okG #[Value.int IntKind.i64 0, Value.int IntKind.i64 0, Value.int IntKind.i64 0, Value.int IntKind.i64 0, Value.int IntKind.u64 0, Value.int IntKind.u64 0, Value.int IntKind.u64 0, Value.int IntKind.u64 0, Value.int IntKind.u64 0, Value.int IntKind.u64 0, Value.int IntKind.u64 0, Value.int IntKind.u64 0, Value.int IntKind.u64 0, Value.int IntKind.u64 0, Value.int IntKind.u64 0, Value.int IntKind.u64 0, Value.int IntKind.u64 0, Value.int IntKind.u64 0, Value.int IntKind.u64 0, Value.int IntKind.u64 0, Value.int IntKind.u64 0, Value.int IntKind.u64 0, Value.int IntKind.u64 0, Value.int IntKind.u64 0, Value.int IntKind.u64 0, Value.int IntKind.u64 0, Value.int IntKind.u64 0, Value.int IntKind.u64 0, Value.int IntKind.i64 0, Value.slice none 0 0, Value.int IntKind.i64 0, Value.int IntKind.i64 0, Value.int IntKind.i64 0, Value.bool false, Value.int IntKind.i64 0, Value.int IntKind.u64 0, Value.int IntKind.u64 0, Value.int IntKind.u64 0, Value.int IntKind.u64 0, Value.int IntKind.u64 0, Value.int IntKind.u64 0, Value.int IntKind.u64 0, Value.int IntKind.u64 0, Value.int IntKind.u64 0, Value.int IntKind.u64 0, Value.int IntKind.u64 0, Value.int IntKind.u64 0, Value.slice none 0 0] zeroG rfl _ rfl (gca y) rfl (by decide) (fillG y) ?_; refine Hid.out ?_))
  have b8 := below1 W13 (.cells (gca y) KG.T)
  have S14 := Lib.hid (S13.out.trans (b8.mono S13.out.size))
  have HIx14 := Lib.hid (HIx13.out.below b8)
  have HIy14 := Lib.hid (HIy13.out.below b8)
  have Qx14 := Lib.hid (Qx13.out.below b8)
  have KX14 := Lib.hid (KX.out.below okG b8)
  have KY := Lib.hid (show KLies KG (.slice (some ⟨W13.heap.size, 0, none⟩) 1 1) [y] (W13.alloc (.cells (gca y) KG.T)) from oneG y W13)
  clear S13 HIx13 HIy13 Qx13 Qy13 KX b8
  generalize W13.alloc (.cells (gca y) KG.T) = W14 at *
  generalize W13.heap.size = B13 at *
  have hf := dec_facts HB.out
  rw [← HDv.out] at hf
  have hlen : x.rs.length ≤ 1000000 := by
    have e : x.u.rules.length ≤ 65535 := by rw [HGx.out]; exact hf.2.1
    rw [show x.u.rules = x.rs.map (·.u) from rfl, List.length_map] at e
    omega
  have hwr : WfRL y.rs := hf.1.1.rl (show y.rs.map (·.u) = dv.rules by rw [← HGy.out]; rfl)
  have hroom : y.mod.u.acts.length ≤ 140737488355328 := by
    have e : y.u.mod.acts.length ≤ 140737488355328 := by rw [HGy.out]; exact hf.1.2
    exact e
  have HC14 := Lib.hid (rsamemsg_any (.slice (some ⟨B12, 0, none⟩) 1 1) (.slice (some ⟨B13, 0, none⟩) 1 1) x y hlen hwr hroom W14 KX14.out KY.out HIx14.out HIy14.out)
  rw [HGx.out, HGy.out, hf.2.2] at HC14
  clear hf hlen hwr hroom
  refine Lib.hid ?_
  go_wp2_with (go_at_call 17; refine HC14.out.mono ?_; rintro e W15 ⟨rfl, hw⟩; refine Hid.out ?_)
  have S15 := Lib.hid (S14.out.trans (hw.mono S14.out.size))
  have HIx15 := Lib.hid (HIx14.out.below hw)
  have Qx15 := Lib.hid (Qx14.out.below hw)
  clear hw S14 HIx14 HIy14 Qx14 KX14 KY HC14
  refine Lib.hid ?_
  by_cases he0 : es = 0
  · have hd0 : decE l = 0 := by rw [← HEs.out]; exact he0
    obtain ⟨⟨f1, f2, f3⟩, f4⟩ := enc_dec HB.out hd0
    have hxu : x.u = decV l := by rw [HGx.out, HDv.out]
    have HC15 := Lib.hid (enc_any x (by rw [hxu]; exact f3) W15 HIx15.out (HT.out W15 S15.out).tab (HT.out W15 S15.out).lt)
    rw [show encE x.u = 0 by unfold encE; rw [hxu]; exact if_pos f1, show encV x.u = l by unfold encV; rw [hxu, if_pos f1]; exact f4] at HC15
    clear hd0 f1 f2 f3 f4 hxu
    go_wp2_with (first
      | (refine wpList_load_row rfl 33 _ rfl Bx rfl 33 (gca x) (0, 0) _ Qx15.out Tryd.underlying33 rfl (by rw [gca_size]; exact infoG) ?_)
      | (go_at_call 11; refine HC15.out.mono ?_; rintro e W16 ⟨u, rfl, hu, hw⟩; refine Hid.out ?_))
    have S16 := Lib.hid (S15.out.trans (hw.mono S15.out.size))
    have HC16 := Lib.hid (rsameB_any (.slice p N c) u l l (by have := HNb.out; have := HNl.out; omega) W16 (by rw [HNl.out]; exact HL.out.below okB S16.out) (hu.lies okB))
    rw [decide_eq_true rfl] at HC16
    clear hu hw S15 HIx15 Qx15 HC15
    refine Lib.hid ?_
    go_wp2_with (go_at_call 15; refine HC16.out.mono ?_; rintro e W17 ⟨rfl, hw⟩)
    go_ret
    exact ⟨rfl, S16.out.trans (hw.mono S16.out.size)⟩
  · have he1 : (es == 0) = false := by simpa using he0
    have he2 : (es != 0) = true := by simpa using he0
    go_wp2_with fail
    go_ret
    exact ⟨rfl, S15.out⟩
end Go.Proofs.YtndgbgolmpoepaaDoor
