/-
  The reference's eye: acts.
-/
import Derived.Test.YtndgbgolmpoepaaDoorCodEyb
import Derived.Test.YtndgbgolmpoepaaDoorCodRde
namespace Go.Proofs.YtndgbgolmpoepaaDoor
set_option maxRecDepth 20000
open Go.RowKit

/-- what reading a list leaves -/
def EyOwn {α : Type} (K : Kd α) (w0 : World) (b : Nat) (p : Option Addr) (c : Nat) (l : List Int) (w : World) (L : List α) (st : Sta) (e : Ending) (w' : World) : Prop := ∃ v, e = .returned v ∧ KOwns K w.heap.size v L w' ∧ EyS w0 b p c l st w' ∧ RStep b w w'
set_option maxHeartbeats 4000000 in
theorem eacts_read {w0 : World} {p : Option Addr} {c : Nat} {l : List Int} (hh : EyH w0 p c l) (b : Nat) (st : Sta) (w : World) (h : EyS w0 b p c l st w) :
    Calls Tryd.prog 40 #[.pointer (some ⟨b, 0, none⟩)] w (EyOwn KA w0 b p c l w (gActs st).1 (gActs st).2) := by
  have HH := Lib.hid hh
  have HC := Lib.hid (eget_h hh b st 1 (by decide) (by decide) w h)
  have HL := Lib.hid (show b < w.heap.size from h.lt)
  have hr := gN_rng (s := 1) (h.byte hh.byte)
  rw [powB_1] at hr
  have HE := Lib.hid (show gActs st = gMany gAct (gN 1 st).1.toNat (gN 1 st).2 from rfl)
  clear h hh
  generalize gN 1 st = y at *
  obtain ⟨n, x⟩ := y
  simp only at HE HC hr
  obtain ⟨N, rfl⟩ := Int.eq_ofNat_of_zero_le hr.1
  have hN : N ≤ 255 := by have := hr.2; omega
  have hNI : (N : Int) ≤ 255 := by omega
  have hN0 : (0 : Int) ≤ (N : Int) := by omega
  have hwN : IntKind.i64.wrap (N : Int) = (N : Int) := by rw [IntKind.wrap_i64]; omega
  simp only [Int.toNat_natCast] at HE
  clear hr
  rw [HE.out]
  clear HE
  go_enter Tryd.func40, Tryd.ntmps40
  go_wp2_with (go_at_call 38; refine HC.out.mono ?_; rintro e w1 ⟨rfl, hs, ht⟩; refine Hid.out ?_)
  have HS := Lib.hid hs
  have HT := Lib.hid ht
  clear hs ht HC
  refine Lib.hid ?_
  go_wp2_with fail
  go_loopg [3, 5] N (fun k lv i wr => ∃ (r : Nat) (L : List Ac) (x' : Sta), Hid (L.length = r) ∧ r + k = N ∧ i = .int .i64 (r : Int) ∧ gMany gAct N x = (L ++ (gMany gAct k x').1, (gMany gAct k x').2) ∧ KOwns KA w.heap.size lv L wr ∧ EyS w0 b p c l x' wr ∧ RStep b w wr)
  case atStart => exact ⟨0, [], x, Lib.hid rfl, by omega, rfl, rfl, KOwns.nil _ _, HS.out, HT.out⟩
  case round =>
    clear HS HT
    obtain ⟨r, L, x', HLr, hr, rfl, he, ho, hs, ht⟩ := hrel
    obtain ⟨po, co, rfl⟩ := ho.form
    have HO := Lib.hid ho
    have HS := Lib.hid hs
    have HT := Lib.hid ht
    have HE := Lib.hid he
    have k1 := hs.short
    clear ho hs ht he
    have hr0 : (0 : Int) ≤ (r : Int) := by omega
    by_cases hk : gk = 0
    · subst hk
      have hrN : ¬ (r : Int) < (N : Int) := by omega
      go_wp2_with fail
      go_ret
      rw [HE.out]
      exact ⟨_, rfl, by show KOwns KA w.heap.size _ (L ++ []) wr; rw [List.append_nil]; exact HO.out, HS.out, HT.out⟩
    obtain ⟨k', rfl⟩ : ∃ k', gk = k' + 1 := ⟨gk - 1, by omega⟩
    have hrN : (r : Int) < (N : Int) := by omega
    cases hsh : x'.2
    · rw [hsh] at k1
      have b0 := HS.out.byte HH.out.byte
      cases h1 : gN 1 x' with
      | mk n1 x1 =>
      cases h2 : gN 1 x1 with
      | mk n2 x2 =>
      cases h3 : gN 1 x2 with
      | mk n3 x3 =>
      cases h4 : gN 8 x3 with
      | mk n4 x4 =>
      have HG := Lib.hid (gMany_step gAct k' hsh (gAct_parts x' h1 h2 h3 h4))
      have b1 : ByL x1.1 := by have := gN_byte (s := 1) b0; rw [h1] at this; exact this
      have b2 : ByL x2.1 := by have := gN_byte (s := 1) b1; rw [h2] at this; exact this
      have r1 := gN_rng (s := 1) b0
      have r2 := gN_rng (s := 1) b1
      have r3 := gN_rng (s := 1) b2
      rw [h1, powB_1] at r1
      rw [h2, powB_1] at r2
      rw [h3, powB_1] at r3
      simp only at r1 r2 r3
      have hw1 : IntKind.i64.wrap n1 = n1 := by rw [IntKind.wrap_i64]; omega
      have hw2 : IntKind.i64.wrap n2 = n2 := by rw [IntKind.wrap_i64]; omega
      have hw3 : IntKind.i64.wrap n3 = n3 := by rw [IntKind.wrap_i64]; omega
      have v10 := r1.1
      have v11 := r1.2
      have v20 := r2.1
      have v21 := r2.2
      have v30 := r3.1
      have v31 := r3.2
      have H1 := Lib.hid h1
      have H2 := Lib.hid h2
      have H3 := Lib.hid h3
      have H4 := Lib.hid h4
      clear h1 h2 h3 h4 hsh b0 b1 b2 r1 r2 r3
      go_upto_region 7 with fail
      clear k1
      have HS0 := Lib.hid (HS.out.alloc (.cells #[.int .i64 0, .int .i64 0, .int .i64 0, .int .u64 0] 97))
      have HR0 := Lib.hid (EyS.salloc HS.out (.cells #[.int .i64 0, .int .i64 0, .int .i64 0, .int .u64 0] 97))
      have HB := Lib.hid HS.out.lt
      have Q0 := Lib.hid (show Blk wr.heap.size (aca ⟨0, 0, 0, 0⟩) 97 (wr.alloc (.cells #[.int .i64 0, .int .i64 0, .int .i64 0, .int .u64 0] 97)) from Blk.new wr (aca ⟨0, 0, 0, 0⟩) 97)
      have HLO := Lib.hid (show w.heap.size ≤ wr.heap.size from (by have h1 := HT.out.below.size; have h2 := HL.out; have h3 := HS.out.lt; first | omega | exact (HT.out.below.size)))
      generalize wr.alloc (.cells #[.int .i64 0, .int .i64 0, .int .i64 0, .int .u64 0] 97) = W0 at *
      have HC0 := Lib.hid (eget_h HH.out b x' 1 (by decide) (by decide) W0 HS0.out)
      rw [H1.out] at HC0
      go_wp2_with (go_at_call 38; refine HC0.out.mono ?_; rintro e V0 ⟨rfl, hs, ht⟩; refine Hid.out ?_)
      have HSv0 := Lib.hid hs
      have HRv0 := Lib.hid (HR0.out.trans ht)
      have Qv0 := Lib.hid (ht.blk Q0.out (by have := HB.out; omega))
      clear hs ht HC0 HS0 HR0 Q0
      refine Lib.hid ?_
      go_wp2_with (refine storeCell rfl 3 _ _ rfl wr.heap.size 0 (.int .i64 n1) rfl rfl rfl (Qv0.out.there (by simp [aca])) (by kernel_rfl) ?_; refine Hid.out ?_)
      have HS1 := Lib.hid (HSv0.out.cset (g := wr.heap.size) (k := 0) (v := .int .i64 n1) HB.out)
      have HR1 := Lib.hid (HRv0.out.cset (g := wr.heap.size) (k := 0) (v := .int .i64 n1) HB.out (Nat.le_refl _))
      have Q1 := Lib.hid (show Blk wr.heap.size (aca ⟨n1, 0, 0, 0⟩) 97 (V0.setCell ⟨wr.heap.size, 0, none⟩ (.int .i64 n1)) from Blk.oneTo Qv0.out rfl)
      clear HSv0 HRv0 Qv0
      generalize V0.setCell ⟨wr.heap.size, 0, none⟩ (.int .i64 n1) = W1 at *
      have HC1 := Lib.hid (eget_h HH.out b x1 1 (by decide) (by decide) W1 HS1.out)
      rw [H2.out] at HC1
      refine Lib.hid ?_
      go_wp2_with (go_at_call 38; refine HC1.out.mono ?_; rintro e V1 ⟨rfl, hs, ht⟩; refine Hid.out ?_)
      have HSv1 := Lib.hid hs
      have HRv1 := Lib.hid (HR1.out.trans ht)
      have Qv1 := Lib.hid (ht.blk Q1.out (by have := HB.out; omega))
      clear hs ht HC1 HS1 HR1 Q1
      refine Lib.hid ?_
      go_wp2_with (refine storeCell rfl 3 _ _ rfl wr.heap.size 1 (.int .i64 n2) rfl rfl rfl (Qv1.out.there (by simp [aca])) (by kernel_rfl) ?_; refine Hid.out ?_)
      have HS2 := Lib.hid (HSv1.out.cset (g := wr.heap.size) (k := 1) (v := .int .i64 n2) HB.out)
      have HR2 := Lib.hid (HRv1.out.cset (g := wr.heap.size) (k := 1) (v := .int .i64 n2) HB.out (Nat.le_refl _))
      have Q2 := Lib.hid (show Blk wr.heap.size (aca ⟨n1, n2, 0, 0⟩) 97 (V1.setCell ⟨wr.heap.size, 1, none⟩ (.int .i64 n2)) from Blk.oneTo Qv1.out rfl)
      clear HSv1 HRv1 Qv1
      generalize V1.setCell ⟨wr.heap.size, 1, none⟩ (.int .i64 n2) = W2 at *
      have HC2 := Lib.hid (eget_h HH.out b x2 1 (by decide) (by decide) W2 HS2.out)
      rw [H3.out] at HC2
      refine Lib.hid ?_
      go_wp2_with (go_at_call 38; refine HC2.out.mono ?_; rintro e V2 ⟨rfl, hs, ht⟩; refine Hid.out ?_)
      have HSv2 := Lib.hid hs
      have HRv2 := Lib.hid (HR2.out.trans ht)
      have Qv2 := Lib.hid (ht.blk Q2.out (by have := HB.out; omega))
      clear hs ht HC2 HS2 HR2 Q2
      refine Lib.hid ?_
      go_wp2_with (refine storeCell rfl 3 _ _ rfl wr.heap.size 2 (.int .i64 n3) rfl rfl rfl (Qv2.out.there (by simp [aca])) (by kernel_rfl) ?_; refine Hid.out ?_)
      have HS3 := Lib.hid (HSv2.out.cset (g := wr.heap.size) (k := 2) (v := .int .i64 n3) HB.out)
      have HR3 := Lib.hid (HRv2.out.cset (g := wr.heap.size) (k := 2) (v := .int .i64 n3) HB.out (Nat.le_refl _))
      have Q3 := Lib.hid (show Blk wr.heap.size (aca ⟨n1, n2, n3, 0⟩) 97 (V2.setCell ⟨wr.heap.size, 2, none⟩ (.int .i64 n3)) from Blk.oneTo Qv2.out rfl)
      clear HSv2 HRv2 Qv2
      generalize V2.setCell ⟨wr.heap.size, 2, none⟩ (.int .i64 n3) = W3 at *
      have HC3 := Lib.hid (eget_h HH.out b x3 8 (by decide) (by decide) W3 HS3.out)
      rw [H4.out] at HC3
      refine Lib.hid ?_
      go_wp2_with (go_at_call 38; refine HC3.out.mono ?_; rintro e V3 ⟨rfl, hs, ht⟩; refine Hid.out ?_)
      have HSv3 := Lib.hid hs
      have HRv3 := Lib.hid (HR3.out.trans ht)
      have Qv3 := Lib.hid (ht.blk Q3.out (by have := HB.out; omega))
      clear hs ht HC3 HS3 HR3 Q3
      refine Lib.hid ?_
      go_wp2_with (refine storeCell rfl 23 _ _ rfl wr.heap.size 3 (.int .u64 n4) rfl rfl rfl (Qv3.out.there (by simp [aca])) (by kernel_rfl) ?_; refine Hid.out ?_)
      have HS4 := Lib.hid (HSv3.out.cset (g := wr.heap.size) (k := 3) (v := .int .u64 n4) HB.out)
      have HR4 := Lib.hid (HRv3.out.cset (g := wr.heap.size) (k := 3) (v := .int .u64 n4) HB.out (Nat.le_refl _))
      have Q4 := Lib.hid (show Blk wr.heap.size (aca ⟨n1, n2, n3, n4⟩) 97 (V3.setCell ⟨wr.heap.size, 3, none⟩ (.int .u64 n4)) from Blk.oneTo Qv3.out rfl)
      clear HSv3 HRv3 Qv3
      generalize V3.setCell ⟨wr.heap.size, 3, none⟩ (.int .u64 n4) = W4 at *
      have HO4 := Lib.hid (HR4.out.owns HO.out HL.out)
      have HT4 := Lib.hid (HT.out.trans HR4.out)
      have HR4s := Lib.hid (show wr.heap.size < W4.heap.size from Q4.out.lt)
      clear HO HT HS HR4
      have HS5 := Lib.hid (HS4.out.alloc (.cells (aca ⟨n1, n2, n3, n4⟩) KA.T))
      have HT5 := Lib.hid (HT4.out.trans (EyS.salloc HS4.out (.cells (aca ⟨n1, n2, n3, n4⟩) KA.T)))
      have HO5 := Lib.hid (HO4.out.below (below1 W4 (.cells (aca ⟨n1, n2, n3, n4⟩) KA.T)))
      have HK5 := Lib.hid (Blk.klies (K := KA) (l := [⟨n1, n2, n3, n4⟩]) (Blk.new W4 (aca ⟨n1, n2, n3, n4⟩) KA.T) okA rfl)
      have HW5 := Lib.hid (show w.heap.size ≤ (W4.alloc (.cells (aca ⟨n1, n2, n3, n4⟩) KA.T)).heap.size from (by have h1 := HT4.out.below.size; have h2 := (below1 W4 (.cells (aca ⟨n1, n2, n3, n4⟩) KA.T)).size; have h3 := HLO.out; have h4 := HR4s.out; omega))
      refine Lib.hid ?_
      go_wp2_with (first
        | (refine wpList_load_row rfl 97 _ rfl wr.heap.size rfl 97 (aca ⟨n1, n2, n3, n4⟩) (0, 0) _ Q4.out Tryd.underlying97 rfl (by kernel_rfl) ?_)
        | (refine kbuildOne KA okA zA zeroA rfl _ rfl (aca ⟨n1, n2, n3, n4⟩) rfl (by decide) (fillA ⟨n1, n2, n3, n4⟩) ?_)
        | (refine kappend KA okA rfl _ _ rfl w.heap.size _ L [⟨n1, n2, n3, n4⟩] rfl HO5.out _ rfl HK5.out HW5.out (by have := HLr.out; simp; omega) (fun v' w' ho hg => ?_); refine Hid.out ?_))
      have HO6 := Lib.hid ho
      have HS6 := Lib.hid (HS5.out.grow hg fun k e => by have := HO5.out.ge k e; have := HL.out; omega)
      have HT6 := Lib.hid (HT5.out.grow HL.out hg fun k e => HO5.out.ge k e)
      clear ho hg HO5 HS5 HT5 HK5 HW5 HO4 HT4 HS4 Q4
      refine Lib.hid ?_
      go_wp2_with fail
      go_roundg k'
      case measure => omega
      case rel => exact ⟨r + 1, L ++ [⟨n1, n2, n3, n4⟩], x4, Lib.hid (by rw [List.length_append, HLr.out]; rfl), by omega, by go_num, by rw [HE.out, HG.out]; simp, HO6.out, HS6.out, HT6.out⟩
    · rw [hsh] at k1
      go_wp2_with fail
      go_ret
      rw [HE.out, gMany_stop _ _ hsh]
      exact ⟨_, rfl, by show KOwns KA w.heap.size _ (L ++ []) wr; rw [List.append_nil]; exact HO.out, HS.out, HT.out⟩
end Go.Proofs.YtndgbgolmpoepaaDoor
