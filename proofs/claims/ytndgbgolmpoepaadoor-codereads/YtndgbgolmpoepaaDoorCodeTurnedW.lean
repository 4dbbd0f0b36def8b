/-
  The walk of the law CodeTurned.
-/
import Derived.Test.YtndgbgolmpoepaaDoorCodLaw
namespace Go.Proofs.YtndgbgolmpoepaaDoor
open Go.RowKit

/-- no sound message has more rules -/
theorem rules_len {x : Ms} (hs : sndMs x = true) : x.rules.length ≤ 65535 := by
  unfold sndMs at hs
  repeat' split at hs
  all_goals simp only [Bool.and_eq_true, decide_eq_true_eq] at hs
  all_goals omega
theorem set_same {E : List Int} {r : Nat} {c : Int} (h : E[r]? = some c) : E.set r c = E := by
  obtain ⟨h1, e1⟩ := List.getElem?_eq_some_iff.1 h
  rw [← e1]
  exact List.set_getElem_self h1
theorem set_other {E : List Int} {r : Nat} {c y : Int} (h : E[r]? = some y) (hn : ¬ y = c) : ¬ E.set r c = E := fun e => by
  have hlt := (List.getElem?_eq_some_iff.1 h).1
  have q : (E.set r c)[r]? = some c := by simp [hlt]
  rw [e, h] at q
  exact hn (Option.some.inj q)
theorem set_byte {E : List Int} {r : Nat} {c : Int} (h : ByL E) (hc : 0 ≤ c ∧ c < 256) : ByL (E.set r c) := fun x hx => by
  rcases List.mem_or_eq_of_mem_set hx with h1 | h1
  · exact h x h1
  · rw [h1]; exact hc
theorem other_no {L : List Int} {y : Ms} (hb : ByL L) (h : decE L = 0) (hy : CanMs y) (hn : ¬ L = encMs y) : msEq (decV L) y = false := by
  cases hm : msEq (decV L) y
  · rfl
  · obtain ⟨⟨_, h2, _⟩, h4⟩ := enc_dec hb h
    rw [(msEq_iff h2 hy).1 hm] at h4
    exact absurd h4.symm hn

set_option maxRecDepth 100000 in
set_option maxHeartbeats 8000000 in
theorem codeTurned_can (g : Gm) (hw : WfG g) (hc : CanMs g.u) (n : Int) (hn : 0 ≤ n ∧ n < 65536) (c : Int) (hcb : 0 ≤ c ∧ c < 256) (w : World) (hi : InG g w) (ht : Tab w) (hz : 0 < w.heap.size) :
    Calls Tryd.prog 8 #[.agg (gca g), .int .u16 n, .int .u8 c] w fun e w' => e = .returned (.bool true) ∧ Below w.heap.size w w' := by
  have HT := Lib.hid (fun (W : World) (hb : Below w.heap.size w W) => Env.of ht hz hb)
  have HI := Lib.hid hi
  have HW := Lib.hid hw
  have HCn := Lib.hid hc
  have HCb := Lib.hid hcb
  have HN := Lib.hid hn
  have S0 := Lib.hid (show RmS w g (w.alloc (.cells (gca g) 33)) from ⟨Blk.new _ _ _, below1 _ _⟩)
  have HC := Lib.hid (small_any g _ (HI.out.below S0.out.2))
  clear ht hi hw hc hcb hn
  have HANS := Lib.hid (fun (W : World) (hb : Below w.heap.size w W) => canswers9 W (HT.out W hb).tab (HT.out W hb).lt)
  cases hsm : smallB g
  · rw [hsm] at HC
    clear hsm
    go_enter Tryd.func8, Tryd.ntmps8
    go_wp2_with (first
      | (refine wpList_load_row rfl 33 _ rfl w.heap.size rfl 33 (gca g) (0, 0) _ S0.out.1 Tryd.underlying33 rfl (by rw [gca_size]; exact infoG) ?_)
      | (go_at_call 9; refine HC.out.mono ?_; rintro e W1 ⟨rfl, hw1⟩; refine Hid.out ?_))
    have S1 := Lib.hid (S0.out.below hw1)
    have HA := Lib.hid (HANS.out W1 S1.out.2)
    clear hw1 HC S0
    refine Lib.hid ?_
    go_wp2_with (go_at_call 10; refine HA.out.mono ?_; rintro e W2 ⟨rfl, hw2⟩)
    go_ret
    exact ⟨rfl, (S1.out.below hw2).2⟩
  rw [hsm] at HC
  clear hsm
  go_enter Tryd.func8, Tryd.ntmps8
  go_wp2_with (first
    | (refine wpList_load_row rfl 33 _ rfl w.heap.size rfl 33 (gca g) (0, 0) _ S0.out.1 Tryd.underlying33 rfl (by rw [gca_size]; exact infoG) ?_)
    | (go_at_call 9; refine HC.out.mono ?_; rintro e W1 ⟨rfl, hw1⟩; refine Hid.out ?_))
  have S1 := Lib.hid (S0.out.below hw1)
  have HC1 := Lib.hid (rmsg_any g HW.out.ms W1 (HI.out.below S1.out.2))
  clear hw1 HC S0
  refine Lib.hid ?_
  cases hsn : sndMs g.u
  · rw [hsn] at HC1
    clear hsn
    go_wp2_with (first
      | (refine loadRowG rfl 33 _ rfl w.heap.size rfl 33 (gca g) (0, 0) S1.out.1 Tryd.underlying33 rfl (by rw [gca_size]; exact infoG) ?_)
      | (go_at_call 13; refine HC1.out.mono ?_; rintro e W2 ⟨rfl, hw1⟩; refine Hid.out ?_))
    have S2 := Lib.hid (S1.out.below hw1)
    have HA := Lib.hid (HANS.out W2 S2.out.2)
    clear hw1 HC1 S1
    refine Lib.hid ?_
    go_wp2_with (go_at_call 10; refine HA.out.mono ?_; rintro e W3 ⟨rfl, hw2⟩)
    go_ret
    exact ⟨rfl, (S2.out.below hw2).2⟩
  rw [hsn] at HC1
  have HSn := Lib.hid hsn
  clear hsn
  go_wp2_with (first
    | (refine loadRowG rfl 33 _ rfl w.heap.size rfl 33 (gca g) (0, 0) S1.out.1 Tryd.underlying33 rfl (by rw [gca_size]; exact infoG) ?_)
    | (go_at_call 13; refine HC1.out.mono ?_; rintro e W2 ⟨rfl, hw1⟩; refine Hid.out ?_))
  have S2 := Lib.hid (S1.out.below hw1)
  clear hw1 HC1 S1
  have HC2 := Lib.hid (renc_any g HSn.out HW.out.ms W2 (HI.out.below S2.out.2))
  refine Lib.hid ?_
  go_wp2_with (first
    | (refine wpList_load_row rfl 33 _ rfl w.heap.size rfl 33 (gca g) (0, 0) _ S2.out.1 Tryd.underlying33 rfl (by rw [gca_size]; exact infoG) ?_)
    | (go_at_call 16; refine HC2.out.mono ?_; rintro e W3 ⟨vb, rfl, hob, hw1⟩; refine Hid.out ?_))
  have S3 := Lib.hid (S2.out.below hw1)
  obtain ⟨E, hE⟩ : ∃ E, E = encMs g.u := ⟨_, rfl⟩
  rw [← hE] at hob
  have HEe := Lib.hid hE
  have hEl : 5 ≤ E.length ∧ E.length ≤ 300000000 := ⟨by rw [hE]; exact enc_ne _, by rw [hE]; exact enc_len HSn.out HW.out.ms⟩
  rcases hob.2 with ⟨_, h0⟩ | ⟨gb, cap, cur, rfl, hge, _⟩
  · exact absurd h0 (by omega)
  have hk := (KAt.of okB hob).1
  have hlow : w.heap.size < gb := Nat.lt_of_lt_of_le (S2.out.1.lt) hge
  have HLow := Lib.hid hlow
  clear hob hw1 HC2 S2 hE hge hlow
  obtain ⟨M, hM⟩ : ∃ M, M = E.length := ⟨_, rfl⟩
  have HM := Lib.hid hM
  rw [← hM] at hEl
  have HEl := Lib.hid hEl
  rw [← hM]
  obtain ⟨r, hr⟩ : ∃ r : Nat, (r : Int) = n % (M : Int) := ⟨(n % (M : Int)).toNat, by have := Int.emod_nonneg n (show (M : Int) ≠ 0 by omega); omega⟩
  have hrM : r < M := by have := Int.emod_lt_of_pos n (show (0 : Int) < (M : Int) by omega); omega
  obtain ⟨y, hy⟩ : ∃ y, E[r]? = some y := ⟨_, List.getElem?_eq_getElem (by rw [← hM]; exact hrM)⟩
  have c0 : W3.cell? ⟨gb, r, none⟩ = some (.int .u8 y) := by
    have q := hk.range hy 0 (.int .u8 y) rfl
    rwa [show r * 1 + 0 = r by omega] at q
  have HTh := Lib.hid (show W3.there gb r 1 by have q := hk.there (i := r) (by have := hk.1; omega); rwa [Nat.mul_one] at q)
  have HY := Lib.hid hy
  have HK4 := Lib.hid (show KLies KB (.slice (some ⟨gb, 0, none⟩) M cap) (E.set r c) (W3.setCell ⟨gb, r, none⟩ (.int .u8 c)) by
    have q := (hk.set okB (i := r) (by omega) c).lies M (by rw [List.length_set]; exact hM) cap (by have := hk.1; omega)
    rwa [Nat.mul_one] at q)
  have S4 := Lib.hid (show RmS w g (W3.setCell ⟨gb, r, none⟩ (.int .u8 c)) from ⟨Blk.cother (g := gb) (k := r) S3.out.1 (by have := HLow.out; omega) _, S3.out.2.setCell (by have := HLow.out; show w.heap.size ≤ gb; omega) _⟩)
  clear hM hk hy
  have hM0 : (0 : Int) < (M : Int) := by omega
  have hn0 : 0 ≤ n := HN.out.1
  have hn1 : n < 65536 := HN.out.2
  have hrm : n % (M : Int) = (r : Int) := hr.symm
  clear hr
  have hne : ¬ ((M : Int) = 0) := by omega
  have hME : M ≤ 300000000 := hEl.2
  have hwn : IntKind.i64.wrap n = n := by rw [IntKind.wrap_i64]; omega
  have hrI : (r : Int) < (M : Int) := by omega
  have hr0 : (0 : Int) ≤ (r : Int) := by omega
  clear hEl
  refine Lib.hid ?_
  go_wp2_with (refine storeCell rfl 5 _ _ rfl gb r (.int .u8 c) rfl rfl rfl HTh.out (by kernel_rfl) ?_; refine Hid.out ?_)
  clear c0 HTh S3
  generalize W3.setCell ⟨gb, r, none⟩ (.int .u8 c) = W4 at *
  have HLb := Lib.hid (show ByL (E.set r c) from set_byte (by rw [HEe.out]; exact encMs_byte _) HCb.out)
  have HC5 := Lib.hid (dec_any _ _ HLb.out W4 HK4.out (HT.out W4 S4.out.2).tab (HT.out W4 S4.out.2).lt)
  refine Lib.hid ?_
  by_cases hyc : y = c
  · have hL : E.set r c = encMs g.u := by rw [← HEe.out]; exact set_same (by rw [← hyc]; exact HY.out)
    rw [hL, (dec_enc HSn.out HW.out.ms HCn.out).1, (dec_enc HSn.out HW.out.ms HCn.out).2] at HC5
    have HEq := Lib.hid (show msEq g.u g.u = true from msEq_self _ HCn.out)
    have HRl := Lib.hid (rules_len HSn.out)
    clear hL
    have hycd : (y == c) = true := by simpa using hyc
    go_upto_region 8 with (first
      | (go_at_call 14; refine HC5.out.mono ?_; rintro e W6 ⟨x, rfl, hg, hix, hw⟩; have HG := Lib.hid hg; have S6 := Lib.hid (S4.out.below hw); have HIx := Lib.hid hix; clear hg hix hw)
      | (refine wpList_store_row rfl 33 _ _ rfl W6.heap.size (gca x) rfl rfl 33 _ (heap_alloc_new _ _) (by kernel_rfl) rfl (gca_one _) ?_; rw [World.setRow_alloc_new]))
    have S7 := Lib.hid (S6.out.below (below1 W6 (.cells (gca x) 33)))
    have HIx7 := Lib.hid (HIx.out.below (below1 W6 (.cells (gca x) 33)))
    have Q7 := Lib.hid (Blk.new W6 (gca x) 33)
    clear S4 S6 HC5 HIx HK4
    generalize W6.alloc (.cells (gca x) 33) = W7 at *
    generalize W6.heap.size = B6 at *
    have HA := Lib.hid (HANS.out W7 S7.out.2)
    go_wp2_with (go_at_call 10; refine HA.out.mono ?_; rintro e W9 ⟨rfl, hw⟩; refine Hid.out ?_)
    have S9 := Lib.hid (S7.out.below hw)
    have HIx9 := Lib.hid (HIx7.out.below hw)
    have Q9 := Lib.hid (Q7.out.below hw)
    clear hw S7 HIx7 Q7 HA
    refine Lib.hid ?_
    go_wp2_with (first
      | (refine loadRowG rfl 33 _ rfl B6 rfl 33 (gca x) (0, 0) Q9.out Tryd.underlying33 rfl (by rw [gca_size]; exact infoG) ?_)
      | (refine kbuildOneG KG okG #[Value.int IntKind.i64 0, Value.int IntKind.i64 0, Value.int IntKind.i64 0, Value.int IntKind.i64 0, Value.int IntKind.u64 0, Value.int IntKind.u64 0, Value.int IntKind.u64 0, Value.int IntKind.u64 0, Value.int IntKind.u64 0, Value.int IntKind.u64 0, Value.int IntKind.u64 0, Value.int IntKind.u64 0, Value.int IntKind.u64 0, Value.int IntKind.u64 0, Value.int IntKind.u64 0, Value.int IntKind.u64 0, Value.int IntKind.u64 0, Value.int IntKind.u64 0, Value.int IntKind.u64 0, Value.int IntKind.u64 0, Value.int IntKind.u64 0, Value.int IntKind.u64 0, Value.int IntKind.u64 0, Value.int IntKind.u64 0, Value.int IntKind.u64 0, Value.int IntKind.u64 0, Value.int IntKind.u64 0, Value.int IntKind.u64 0, Value.int IntKind.i64 0, Value.slice none 0 0, Value.int IntKind.i64 0, Value.int IntKind.i64 0, Value.int IntKind.i64 0, Value.bool false, Value.int IntKind.i64 0, Value.int IntKind.u64 0, Value.int IntKind.u64 0, Value.int IntKind.u64 0, Value.int IntKind.u64 0, Value.int IntKind.u64 0, Value.int IntKind.u64 0, Value.int IntKind.u64 0, Value.int IntKind.u64 0, Value.int IntKind.u64 0, Value.int IntKind.u64 0, Value.int IntKind.u64 0, Value.int IntKind.u64 0, Value.slice none 0 0] zeroG rfl _ rfl (gca x) rfl (by decide) (fillG x) ?_; refine Hid.out ?_))
    have S10 := Lib.hid (S9.out.below (below1 W9 (.cells (gca x) KG.T)))
    have HIx10 := Lib.hid (HIx9.out.below (below1 W9 (.cells (gca x) KG.T)))
    have KX := Lib.hid (show KLies KG (.slice (some ⟨W9.heap.size, 0, none⟩) 1 1) [x] (W9.alloc (.cells (gca x) KG.T)) from oneG x W9)
    clear S9 HIx9 Q9
    generalize W9.alloc (.cells (gca x) KG.T) = W10 at *
    generalize W9.heap.size = B9 at *
    refine Lib.hid ?_
    go_wp2_with (first
      | (refine loadRowG rfl 33 _ rfl w.heap.size rfl 33 (gca g) (0, 0) S10.out.1 Tryd.underlying33 rfl (by rw [gca_size]; exact infoG) ?_)
      | (refine kbuildOneG KG okG #[Value.int IntKind.i64 0, Value.int IntKind.i64 0, Value.int IntKind.i64 0, Value.int IntKind.i64 0, Value.int IntKind.u64 0, Value.int IntKind.u64 0, Value.int IntKind.u64 0, Value.int IntKind.u64 0, Value.int IntKind.u64 0, Value.int IntKind.u64 0, Value.int IntKind.u64 0, Value.int IntKind.u64 0, Value.int IntKind.u64 0, Value.int IntKind.u64 0, Value.int IntKind.u64 0, Value.int IntKind.u64 0, Value.int IntKind.u64 0, Value.int IntKind.u64 0, Value.int IntKind.u64 0, Value.int IntKind.u64 0, Value.int IntKind.u64 0, Value.int IntKind.u64 0, Value.int IntKind.u64 0, Value.int IntKind.u64 0, Value.int IntKind.u64 0, Value.int IntKind.u64 0, Value.int IntKind.u64 0, Value.int IntKind.u64 0, Value.int IntKind.i64 0, Value.slice none 0 0, Value.int IntKind.i64 0, Value.int IntKind.i64 0, Value.int IntKind.i64 0, Value.bool false, Value.int IntKind.i64 0, Value.int IntKind.u64 0, Value.int IntKind.u64 0, Value.int IntKind.u64 0, Value.int IntKind.u64 0, Value.int IntKind.u64 0, Value.int IntKind.u64 0, Value.int IntKind.u64 0, Value.int IntKind.u64 0, Value.int IntKind.u64 0, Value.int IntKind.u64 0, Value.int IntKind.u64 0, Value.int IntKind.u64 0, Value.slice none 0 0] zeroG rfl _ rfl (gca g) rfl (by decide) (fillG g) ?_; refine Hid.out ?_))
    have S11 := Lib.hid (S10.out.below (below1 W10 (.cells (gca g) KG.T)))
    have HIx11 := Lib.hid (HIx10.out.below (below1 W10 (.cells (gca g) KG.T)))
    have KX11 := Lib.hid (KX.out.below okG (below1 W10 (.cells (gca g) KG.T)))
    have KY := Lib.hid (show KLies KG (.slice (some ⟨W10.heap.size, 0, none⟩) 1 1) [g] (W10.alloc (.cells (gca g) KG.T)) from oneG g W10)
    clear S10 HIx10 KX
    generalize W10.alloc (.cells (gca g) KG.T) = W11 at *
    generalize W10.heap.size = B10 at *
    have hlen : x.rs.length ≤ 1000000 := by
      have e : x.u.rules.length ≤ 65535 := by rw [HG.out]; exact HRl.out
      rw [show x.u.rules = x.rs.map (·.u) from rfl, List.length_map] at e
      omega
    have hroom : g.mod.u.acts.length ≤ 140737488355328 := by have := HW.out.mod.room; omega
    have HC11 := Lib.hid (rsamemsg_any (.slice (some ⟨B9, 0, none⟩) 1 1) (.slice (some ⟨B10, 0, none⟩) 1 1) x g hlen HW.out.rules hroom W11 KX11.out KY.out HIx11.out (HI.out.below S11.out.2))
    rw [HG.out, HEq.out] at HC11
    clear hlen hroom
    refine Lib.hid ?_
    go_wp2_with (go_at_call 17; refine HC11.out.mono ?_; rintro e W12 ⟨rfl, hw⟩)
    go_ret
    exact ⟨rfl, (S11.out.below hw).2⟩
  have hycd : (y == c) = false := by simpa using hyc
  have HNo := Lib.hid (show ¬ E.set r c = encMs g.u by rw [← HEe.out]; exact set_other HY.out hyc)
  by_cases hd0 : decE (E.set r c) = 0
  · have HEq := Lib.hid (other_no HLb.out hd0 HCn.out HNo.out)
    have HRl := Lib.hid (rules_len (enc_dec HLb.out hd0).1.1)
    rw [hd0] at HC5
    clear hd0
    generalize decV (E.set r c) = dv at *
    go_upto_region 8 with (first
      | (go_at_call 14; refine HC5.out.mono ?_; rintro e W6 ⟨x, rfl, hg, hix, hw⟩; have HG := Lib.hid hg; have S6 := Lib.hid (S4.out.below hw); have HIx := Lib.hid hix; clear hg hix hw)
      | (refine wpList_store_row rfl 33 _ _ rfl W6.heap.size (gca x) rfl rfl 33 _ (heap_alloc_new _ _) (by kernel_rfl) rfl (gca_one _) ?_; rw [World.setRow_alloc_new]))
    have S7 := Lib.hid (S6.out.below (below1 W6 (.cells (gca x) 33)))
    have HIx7 := Lib.hid (HIx.out.below (below1 W6 (.cells (gca x) 33)))
    have Q7 := Lib.hid (Blk.new W6 (gca x) 33)
    clear S4 S6 HC5 HIx HK4
    generalize W6.alloc (.cells (gca x) 33) = W7 at *
    generalize W6.heap.size = B6 at *
    have HA := Lib.hid (HANS.out W7 S7.out.2)
    go_wp2_with (go_at_call 10; refine HA.out.mono ?_; rintro e W9 ⟨rfl, hw⟩; refine Hid.out ?_)
    have S9 := Lib.hid (S7.out.below hw)
    have HIx9 := Lib.hid (HIx7.out.below hw)
    have Q9 := Lib.hid (Q7.out.below hw)
    clear hw S7 HIx7 Q7 HA
    refine Lib.hid ?_
    go_wp2_with (first
      | (refine loadRowG rfl 33 _ rfl B6 rfl 33 (gca x) (0, 0) Q9.out Tryd.underlying33 rfl (by rw [gca_size]; exact infoG) ?_)
      | (refine kbuildOneG KG okG #[Value.int IntKind.i64 0, Value.int IntKind.i64 0, Value.int IntKind.i64 0, Value.int IntKind.i64 0, Value.int IntKind.u64 0, Value.int IntKind.u64 0, Value.int IntKind.u64 0, Value.int IntKind.u64 0, Value.int IntKind.u64 0, Value.int IntKind.u64 0, Value.int IntKind.u64 0, Value.int IntKind.u64 0, Value.int IntKind.u64 0, Value.int IntKind.u64 0, Value.int IntKind.u64 0, Value.int IntKind.u64 0, Value.int IntKind.u64 0, Value.int IntKind.u64 0, Value.int IntKind.u64 0, Value.int IntKind.u64 0, Value.int IntKind.u64 0, Value.int IntKind.u64 0, Value.int IntKind.u64 0, Value.int IntKind.u64 0, Value.int IntKind.u64 0, Value.int IntKind.u64 0, Value.int IntKind.u64 0, Value.int IntKind.u64 0, Value.int IntKind.i64 0, Value.slice none 0 0, Value.int IntKind.i64 0, Value.int IntKind.i64 0, Value.int IntKind.i64 0, Value.bool false, Value.int IntKind.i64 0, Value.int IntKind.u64 0, Value.int IntKind.u64 0, Value.int IntKind.u64 0, Value.int IntKind.u64 0, Value.int IntKind.u64 0, Value.int IntKind.u64 0, Value.int IntKind.u64 0, Value.int IntKind.u64 0, Value.int IntKind.u64 0, Value.int IntKind.u64 0, Value.int IntKind.u64 0, Value.int IntKind.u64 0, Value.slice none 0 0] zeroG rfl _ rfl (gca x) rfl (by decide) (fillG x) ?_; refine Hid.out ?_))
    have S10 := Lib.hid (S9.out.below (below1 W9 (.cells (gca x) KG.T)))
    have HIx10 := Lib.hid (HIx9.out.below (below1 W9 (.cells (gca x) KG.T)))
    have KX := Lib.hid (show KLies KG (.slice (some ⟨W9.heap.size, 0, none⟩) 1 1) [x] (W9.alloc (.cells (gca x) KG.T)) from oneG x W9)
    clear S9 HIx9 Q9
    generalize W9.alloc (.cells (gca x) KG.T) = W10 at *
    generalize W9.heap.size = B9 at *
    refine Lib.hid ?_
    go_wp2_with (first
      | (refine loadRowG rfl 33 _ rfl w.heap.size rfl 33 (gca g) (0, 0) S10.out.1 Tryd.underlying33 rfl (by rw [gca_size]; exact infoG) ?_)
      | (refine kbuildOneG KG okG #[Value.int IntKind.i64 0, Value.int IntKind.i64 0, Value.int IntKind.i64 0, Value.int IntKind.i64 0, Value.int IntKind.u64 0, Value.int IntKind.u64 0, Value.int IntKind.u64 0, Value.int IntKind.u64 0, Value.int IntKind.u64 0, Value.int IntKind.u64 0, Value.int IntKind.u64 0, Value.int IntKind.u64 0, Value.int IntKind.u64 0, Value.int IntKind.u64 0, Value.int IntKind.u64 0, Value.int IntKind.u64 0, Value.int IntKind.u64 0, Value.int IntKind.u64 0, Value.int IntKind.u64 0, Value.int IntKind.u64 0, Value.int IntKind.u64 0, Value.int IntKind.u64 0, Value.int IntKind.u64 0, Value.int IntKind.u64 0, Value.int IntKind.u64 0, Value.int IntKind.u64 0, Value.int IntKind.u64 0, Value.int IntKind.u64 0, Value.int IntKind.i64 0, Value.slice none 0 0, Value.int IntKind.i64 0, Value.int IntKind.i64 0, Value.int IntKind.i64 0, Value.bool false, Value.int IntKind.i64 0, Value.int IntKind.u64 0, Value.int IntKind.u64 0, Value.int IntKind.u64 0, Value.int IntKind.u64 0, Value.int IntKind.u64 0, Value.int IntKind.u64 0, Value.int IntKind.u64 0, Value.int IntKind.u64 0, Value.int IntKind.u64 0, Value.int IntKind.u64 0, Value.int IntKind.u64 0, Value.int IntKind.u64 0, Value.slice none 0 0] zeroG rfl _ rfl (gca g) rfl (by decide) (fillG g) ?_; refine Hid.out ?_))
    have S11 := Lib.hid (S10.out.below (below1 W10 (.cells (gca g) KG.T)))
    have HIx11 := Lib.hid (HIx10.out.below (below1 W10 (.cells (gca g) KG.T)))
    have KX11 := Lib.hid (KX.out.below okG (below1 W10 (.cells (gca g) KG.T)))
    have KY := Lib.hid (show KLies KG (.slice (some ⟨W10.heap.size, 0, none⟩) 1 1) [g] (W10.alloc (.cells (gca g) KG.T)) from oneG g W10)
    clear S10 HIx10 KX
    generalize W10.alloc (.cells (gca g) KG.T) = W11 at *
    generalize W10.heap.size = B10 at *
    have hlen : x.rs.length ≤ 1000000 := by
      have e : x.u.rules.length ≤ 65535 := by rw [HG.out]; exact HRl.out
      rw [show x.u.rules = x.rs.map (·.u) from rfl, List.length_map] at e
      omega
    have hroom : g.mod.u.acts.length ≤ 140737488355328 := by have := HW.out.mod.room; omega
    have HC11 := Lib.hid (rsamemsg_any (.slice (some ⟨B9, 0, none⟩) 1 1) (.slice (some ⟨B10, 0, none⟩) 1 1) x g hlen HW.out.rules hroom W11 KX11.out KY.out HIx11.out (HI.out.below S11.out.2))
    rw [HG.out, HEq.out] at HC11
    clear hlen hroom
    refine Lib.hid ?_
    go_wp2_with (go_at_call 17; refine HC11.out.mono ?_; rintro e W12 ⟨rfl, hw⟩)
    go_ret
    exact ⟨rfl, (S11.out.below hw).2⟩
  obtain ⟨es, hes⟩ : ∃ es, es = decE (E.set r c) := ⟨_, rfl⟩
  rw [← hes] at HC5 hd0
  clear hes
  generalize decV (E.set r c) = dv at *
  have hes1 : (es == 0) = false := by simpa using hd0
  have hes2 : (es != 0) = true := by simpa using hd0
  go_upto_region 8 with (first
    | (go_at_call 14; refine HC5.out.mono ?_; rintro e W6 ⟨x, rfl, hg, hix, hw⟩; have HG := Lib.hid hg; have S6 := Lib.hid (S4.out.below hw); have HIx := Lib.hid hix; clear hg hix hw)
    | (refine wpList_store_row rfl 33 _ _ rfl W6.heap.size (gca x) rfl rfl 33 _ (heap_alloc_new _ _) (by kernel_rfl) rfl (gca_one _) ?_; rw [World.setRow_alloc_new]))
  have S7 := Lib.hid (S6.out.below (below1 W6 (.cells (gca x) 33)))
  have HIx7 := Lib.hid (HIx.out.below (below1 W6 (.cells (gca x) 33)))
  have Q7 := Lib.hid (Blk.new W6 (gca x) 33)
  clear S4 S6 HC5 HIx HK4
  generalize W6.alloc (.cells (gca x) 33) = W7 at *
  generalize W6.heap.size = B6 at *
  have HA := Lib.hid (HANS.out W7 S7.out.2)
  go_wp2_with (go_at_call 10; refine HA.out.mono ?_; rintro e W8 ⟨rfl, hw2⟩)
  go_ret
  exact ⟨rfl, (S7.out.below hw2).2⟩
theorem codeTurned_any (g : Gm) (hw : WfG g) (n : Int) (hn : 0 ≤ n ∧ n < 65536) (c : Int) (hcb : 0 ≤ c ∧ c < 256) (w : World) (hi : InG g w) (ht : Tab w) (hz : 0 < w.heap.size) :
    Calls Tryd.prog 8 #[.agg (gca g), .int .u16 n, .int .u8 c] w fun e w' => e = .returned (.bool true) ∧ Below w.heap.size w w' := by
  rw [← gca_can g]
  exact codeTurned_can (canG g) (canG_wf hw) (canG_can g) n hn c hcb w (canG_in hi) ht hz
end Go.Proofs.YtndgbgolmpoepaaDoor
