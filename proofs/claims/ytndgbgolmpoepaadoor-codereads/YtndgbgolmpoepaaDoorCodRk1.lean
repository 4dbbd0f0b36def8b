/-
  The reference's Decode: a change.
-/
import Derived.Test.YtndgbgolmpoepaaDoorCodRdh
namespace Go.Proofs.YtndgbgolmpoepaaDoor
set_option maxRecDepth 20000
open Go.RowKit

set_option maxRecDepth 100000 in
set_option maxHeartbeats 16000000 in
theorem rdec_1 {p : Option Addr} {c : Nat} {l : List Int} (w : World) (hh : EyH w p c l) {k t : Int} {x1 x2 : Sta} (h0 : gN 1 (l, false) = (k, x1)) (h1 : gN 4 x1 = (t, x2)) (hk : k = 1) :
    Calls Tryd.prog 19 #[.slice p l.length c] w (DecRet w (decE l) (decV l)) := by
  obtain ⟨n, hn⟩ : ∃ n, n = l.length := ⟨_, rfl⟩
  have HH := Lib.hid hh
  have HN := Lib.hid hn
  have hb0 : ByL l := hh.byte
  have rk := gN_rng4 h0 (by decide) hb0
  have b1 := gN_byte1 h0 hb0
  have rt := gN_rng4 h1 (by decide) b1
  have b2 := gN_byte1 h1 b1
  have hpart := gMs_parts chkR h0 h1
  subst hk
  obtain ⟨⟨kd, x3⟩, h2⟩ : ∃ y, gN 1 x2 = y := ⟨_, rfl⟩
  obtain ⟨⟨a, x4⟩, h3⟩ : ∃ y, gNs (List.replicate 12 8) x3 = y := ⟨_, rfl⟩
  obtain ⟨⟨d, x5⟩, h4⟩ : ∃ y, gNs (List.replicate 12 8) x4 = y := ⟨_, rfl⟩
  obtain ⟨⟨pr, x6⟩, h5⟩ : ∃ y, gN 2 x5 = y := ⟨_, rfl⟩
  obtain ⟨⟨i, x7⟩, h6⟩ : ∃ y, gN 4 x6 = y := ⟨_, rfl⟩
  obtain ⟨⟨h, x8⟩, h7⟩ : ∃ y, gN 4 x7 = y := ⟨_, rfl⟩
  obtain ⟨⟨o, x9⟩, h8⟩ : ∃ y, gN 1 x8 = y := ⟨_, rfl⟩
  obtain ⟨⟨q, x10⟩, h9⟩ : ∃ y, gN 1 x9 = y := ⟨_, rfl⟩
  obtain ⟨⟨ac, ⟨z, sh⟩⟩, h10⟩ : ∃ y, gActs x10 = y := ⟨_, rfl⟩
  obtain ⟨hc1, hc2⟩ := two_heads h3 h4
  have hX : gMs chkR (l, false) = (((⟨1, t, 0, ⟨kd, cubeOf (a ++ d) 0, pr, ac, i, h, o, chkR q⟩, 0, zHd, []⟩ : Ms), decide (1 < q)), (z, sh)) := by
    rw [hpart]
    show (((⟨1, t, 0, (gMod chkR x2).1.1, 0, zHd, []⟩ : Ms), (gMod chkR x2).1.2), (gMod chkR x2).2) = _
    rw [gMod_parts chkR x2 h2 hc1 h5 h6 h7 h8 h9 h10]
  have r2 := gN_rng4 h2 (by decide) b2
  have r20 := r2.1
  have r21 := r2.2
  have w2 := wrap_small r2.1 r2.2
  have b3 := gN_byte1 h2 b2
  have b4 := gNs_byte1 h3 b3
  have b5 := gNs_byte1 h4 b4
  have r5 := gN_rng4 h5 (by decide) b5
  have r50 := r5.1
  have r51 := r5.2
  have w5 := wrap_small r5.1 r5.2
  have b6 := gN_byte1 h5 b5
  have r6 := gN_rng4 h6 (by decide) b6
  have r60 := r6.1
  have r61 := r6.2
  have w6 := wrap_small r6.1 r6.2
  have b7 := gN_byte1 h6 b6
  have r7 := gN_rng4 h7 (by decide) b7
  have r70 := r7.1
  have r71 := r7.2
  have w7 := wrap_small r7.1 r7.2
  have b8 := gN_byte1 h7 b7
  have r8 := gN_rng4 h8 (by decide) b8
  have r80 := r8.1
  have r81 := r8.2
  have w8 := wrap_small r8.1 r8.2
  have b9 := gN_byte1 h8 b8
  have r9 := gN_rng4 h9 (by decide) b9
  have r90 := r9.1
  have r91 := r9.2
  have w9 := wrap_small r9.1 r9.2
  have b10 := gN_byte1 h9 b9
  have E2 := Lib.hid h2
  have E3 := Lib.hid h3
  have E4 := Lib.hid h4
  have E5 := Lib.hid h5
  have E6 := Lib.hid h6
  have E7 := Lib.hid h7
  have E8 := Lib.hid h8
  have E9 := Lib.hid h9
  have E10 := Lib.hid h10
  have HJ := Lib.hid hc2
  clear hc1 hc2 r2 b3 b4 b5 r5 b6 r6 b7 r7 b8 r8 b9 r9 b10 h2 h3 h4 h5 h6 h7 h8 h9 h10
  obtain ⟨es, hes⟩ : ∃ es, es = decE l := ⟨_, rfl⟩
  obtain ⟨V, hV⟩ : ∃ V, V = decV l := ⟨_, rfl⟩
  have HDW := Lib.hid (dec_refW hb0 hX)
  rw [← hes, ← hV] at HDW ⊢
  clear hes hV
  have HX := Lib.hid hX
  have E0 := Lib.hid h0
  have E1 := Lib.hid h1
  have rk0 := rk.1
  have rk1 := rk.2
  have rt0 := rt.1
  have rt1 := rt.2
  have wk := wrap_small rk.1 rk.2
  have wt := wrap_small rt.1 rt.2
  clear rk rt b1 b2 hpart hX h0 h1 hb0
  rw [← hn]
  clear hn hh
  have HSP := Lib.hid (Below.refl w.heap.size w)
  go_enter Tryd.func19, Tryd.ntmps19
  go_upto_region 1 with fail
  have R0 := Lib.hid (Blk.new w #[Value.int IntKind.i64 0, Value.int IntKind.i64 0, Value.int IntKind.i64 0, Value.int IntKind.i64 0, Value.int IntKind.u64 0, Value.int IntKind.u64 0, Value.int IntKind.u64 0, Value.int IntKind.u64 0, Value.int IntKind.u64 0, Value.int IntKind.u64 0, Value.int IntKind.u64 0, Value.int IntKind.u64 0, Value.int IntKind.u64 0, Value.int IntKind.u64 0, Value.int IntKind.u64 0, Value.int IntKind.u64 0, Value.int IntKind.u64 0, Value.int IntKind.u64 0, Value.int IntKind.u64 0, Value.int IntKind.u64 0, Value.int IntKind.u64 0, Value.int IntKind.u64 0, Value.int IntKind.u64 0, Value.int IntKind.u64 0, Value.int IntKind.u64 0, Value.int IntKind.u64 0, Value.int IntKind.u64 0, Value.int IntKind.u64 0, Value.int IntKind.i64 0, Value.slice none 0 0, Value.int IntKind.i64 0, Value.int IntKind.i64 0, Value.int IntKind.i64 0, Value.bool false, Value.int IntKind.i64 0, Value.int IntKind.u64 0, Value.int IntKind.u64 0, Value.int IntKind.u64 0, Value.int IntKind.u64 0, Value.int IntKind.u64 0, Value.int IntKind.u64 0, Value.int IntKind.u64 0, Value.int IntKind.u64 0, Value.int IntKind.u64 0, Value.int IntKind.u64 0, Value.int IntKind.u64 0, Value.int IntKind.u64 0, Value.slice none 0 0] 33)
  have K0 := Lib.hid (below1 w (.cells #[Value.int IntKind.i64 0, Value.int IntKind.i64 0, Value.int IntKind.i64 0, Value.int IntKind.i64 0, Value.int IntKind.u64 0, Value.int IntKind.u64 0, Value.int IntKind.u64 0, Value.int IntKind.u64 0, Value.int IntKind.u64 0, Value.int IntKind.u64 0, Value.int IntKind.u64 0, Value.int IntKind.u64 0, Value.int IntKind.u64 0, Value.int IntKind.u64 0, Value.int IntKind.u64 0, Value.int IntKind.u64 0, Value.int IntKind.u64 0, Value.int IntKind.u64 0, Value.int IntKind.u64 0, Value.int IntKind.u64 0, Value.int IntKind.u64 0, Value.int IntKind.u64 0, Value.int IntKind.u64 0, Value.int IntKind.u64 0, Value.int IntKind.u64 0, Value.int IntKind.u64 0, Value.int IntKind.u64 0, Value.int IntKind.u64 0, Value.int IntKind.i64 0, Value.slice none 0 0, Value.int IntKind.i64 0, Value.int IntKind.i64 0, Value.int IntKind.i64 0, Value.bool false, Value.int IntKind.i64 0, Value.int IntKind.u64 0, Value.int IntKind.u64 0, Value.int IntKind.u64 0, Value.int IntKind.u64 0, Value.int IntKind.u64 0, Value.int IntKind.u64 0, Value.int IntKind.u64 0, Value.int IntKind.u64 0, Value.int IntKind.u64 0, Value.int IntKind.u64 0, Value.int IntKind.u64 0, Value.int IntKind.u64 0, Value.slice none 0 0] 33))
  generalize hw : w.alloc (.cells #[Value.int IntKind.i64 0, Value.int IntKind.i64 0, Value.int IntKind.i64 0, Value.int IntKind.i64 0, Value.int IntKind.u64 0, Value.int IntKind.u64 0, Value.int IntKind.u64 0, Value.int IntKind.u64 0, Value.int IntKind.u64 0, Value.int IntKind.u64 0, Value.int IntKind.u64 0, Value.int IntKind.u64 0, Value.int IntKind.u64 0, Value.int IntKind.u64 0, Value.int IntKind.u64 0, Value.int IntKind.u64 0, Value.int IntKind.u64 0, Value.int IntKind.u64 0, Value.int IntKind.u64 0, Value.int IntKind.u64 0, Value.int IntKind.u64 0, Value.int IntKind.u64 0, Value.int IntKind.u64 0, Value.int IntKind.u64 0, Value.int IntKind.u64 0, Value.int IntKind.u64 0, Value.int IntKind.u64 0, Value.int IntKind.u64 0, Value.int IntKind.i64 0, Value.slice none 0 0, Value.int IntKind.i64 0, Value.int IntKind.i64 0, Value.int IntKind.i64 0, Value.bool false, Value.int IntKind.i64 0, Value.int IntKind.u64 0, Value.int IntKind.u64 0, Value.int IntKind.u64 0, Value.int IntKind.u64 0, Value.int IntKind.u64 0, Value.int IntKind.u64 0, Value.int IntKind.u64 0, Value.int IntKind.u64 0, Value.int IntKind.u64 0, Value.int IntKind.u64 0, Value.int IntKind.u64 0, Value.int IntKind.u64 0, Value.slice none 0 0] 33) = W0 at *
  clear hw
  go_upto_region 2 with fail
  have HS1 := Lib.hid (show EyS w W0.heap.size p c l (l, false) (W0.alloc (.cells #[.slice p n c, .int .i64 0, .bool false] 76)) from ⟨0, false, by rw [← HN.out]; exact Blk.new _ _ _, Nat.zero_le _, rfl, K0.out.trans ((below1 _ _).mono K0.out.size), K0.out.size⟩)
  have R1 := Lib.hid (R0.out.old (.cells #[.slice p n c, .int .i64 0, .bool false] 76))
  have HNe := Lib.hid (show w.heap.size < W0.heap.size from R0.out.lt)
  clear R0 K0 HSP
  generalize W0.alloc (.cells #[.slice p n c, .int .i64 0, .bool false] 76) = W1 at *
  generalize W0.heap.size = b at *
  go_upto_region 3 with fail
  have HM2 := Lib.hid (show DgS p c l w b W1.heap.size zGm (l, false) (W1.alloc (.cells #[Value.int IntKind.i64 0, Value.int IntKind.i64 0, Value.int IntKind.i64 0, Value.int IntKind.i64 0, Value.int IntKind.u64 0, Value.int IntKind.u64 0, Value.int IntKind.u64 0, Value.int IntKind.u64 0, Value.int IntKind.u64 0, Value.int IntKind.u64 0, Value.int IntKind.u64 0, Value.int IntKind.u64 0, Value.int IntKind.u64 0, Value.int IntKind.u64 0, Value.int IntKind.u64 0, Value.int IntKind.u64 0, Value.int IntKind.u64 0, Value.int IntKind.u64 0, Value.int IntKind.u64 0, Value.int IntKind.u64 0, Value.int IntKind.u64 0, Value.int IntKind.u64 0, Value.int IntKind.u64 0, Value.int IntKind.u64 0, Value.int IntKind.u64 0, Value.int IntKind.u64 0, Value.int IntKind.u64 0, Value.int IntKind.u64 0, Value.int IntKind.i64 0, Value.slice none 0 0, Value.int IntKind.i64 0, Value.int IntKind.i64 0, Value.int IntKind.i64 0, Value.bool false, Value.int IntKind.i64 0, Value.int IntKind.u64 0, Value.int IntKind.u64 0, Value.int IntKind.u64 0, Value.int IntKind.u64 0, Value.int IntKind.u64 0, Value.int IntKind.u64 0, Value.int IntKind.u64 0, Value.int IntKind.u64 0, Value.int IntKind.u64 0, Value.int IntKind.u64 0, Value.int IntKind.u64 0, Value.int IntKind.u64 0, Value.slice none 0 0] 33)) from ⟨HS1.out.alloc _, R1.out.old _, by rw [← zGca]; exact Blk.new _ _ _, HNe.out, HS1.out.lt⟩)
  clear HS1 R1 HNe
  generalize W1.alloc (.cells #[Value.int IntKind.i64 0, Value.int IntKind.i64 0, Value.int IntKind.i64 0, Value.int IntKind.i64 0, Value.int IntKind.u64 0, Value.int IntKind.u64 0, Value.int IntKind.u64 0, Value.int IntKind.u64 0, Value.int IntKind.u64 0, Value.int IntKind.u64 0, Value.int IntKind.u64 0, Value.int IntKind.u64 0, Value.int IntKind.u64 0, Value.int IntKind.u64 0, Value.int IntKind.u64 0, Value.int IntKind.u64 0, Value.int IntKind.u64 0, Value.int IntKind.u64 0, Value.int IntKind.u64 0, Value.int IntKind.u64 0, Value.int IntKind.u64 0, Value.int IntKind.u64 0, Value.int IntKind.u64 0, Value.int IntKind.u64 0, Value.int IntKind.u64 0, Value.int IntKind.u64 0, Value.int IntKind.u64 0, Value.int IntKind.u64 0, Value.int IntKind.i64 0, Value.slice none 0 0, Value.int IntKind.i64 0, Value.int IntKind.i64 0, Value.int IntKind.i64 0, Value.bool false, Value.int IntKind.i64 0, Value.int IntKind.u64 0, Value.int IntKind.u64 0, Value.int IntKind.u64 0, Value.int IntKind.u64 0, Value.int IntKind.u64 0, Value.int IntKind.u64 0, Value.int IntKind.u64 0, Value.int IntKind.u64 0, Value.int IntKind.u64 0, Value.int IntKind.u64 0, Value.int IntKind.u64 0, Value.int IntKind.u64 0, Value.slice none 0 0] 33) = W2 at *
  generalize W1.heap.size = B5 at *
  have HC := Lib.hid (eget_h HH.out b (l, false) 1 (by decide) (by decide) W2 HM2.out.1)
  rw [E0.out] at HC
  go_wp2_with (go_at_call 38; refine HC.out.mono ?_; rintro e W3 ⟨rfl, hs, ht⟩; refine Hid.out ?_)
  have HM3 := Lib.hid (HM2.out.step hs ht)
  clear hs ht HC HM2 
  refine Lib.hid ?_
  go_wp2_with (refine storeCell rfl 3 _ _ rfl B5 0 (.int .i64 1) rfl rfl rfl (HM3.out.2.2.1.there (by rw [gca_size]; decide)) infoInt ?_; refine Hid.out ?_)
  have HM4 := Lib.hid (HM3.out.cell (j := 0) (v := .int .i64 1) (g0_kind 1))
  clear HM3
  generalize W3.setCell ⟨B5, 0, none⟩ (.int .i64 1) = W4 at *
  refine Lib.hid ?_
  have HC := Lib.hid (eget_h HH.out b x1 4 (by decide) (by decide) W4 HM4.out.1)
  rw [E1.out] at HC
  go_wp2_with (go_at_call 38; refine HC.out.mono ?_; rintro e W5 ⟨rfl, hs, ht⟩; refine Hid.out ?_)
  have HM5 := Lib.hid (HM4.out.step hs ht)
  clear hs ht HC HM4 
  refine Lib.hid ?_
  go_wp2_with (refine storeCell rfl 3 _ _ rfl B5 1 (.int .i64 t) rfl rfl rfl (HM5.out.2.2.1.there (by rw [gca_size]; decide)) infoInt ?_; refine Hid.out ?_)
  have HM6 := Lib.hid (HM5.out.cell (j := 1) (v := .int .i64 t) (g0_txn 1 t))
  clear HM5
  generalize W5.setCell ⟨B5, 1, none⟩ (.int .i64 t) = W6 at *
  refine Lib.hid ?_
  have kk : W6.cell? ⟨B5, 0, none⟩ = some (.int .i64 1) := HM6.out.2.2.1.cellsG.kind
  have HM6x := Lib.hid (show DgS p c l w b B5 (gm1 t 0 (fun _ => 0) 0 0 0 0 false none 0 0 []) x2 W6 from HM6.out)
  clear HM6
  have HC := Lib.hid (eget_h HH.out b x2 1 (by decide) (by decide) W6 HM6x.out.1)
  rw [E2.out] at HC
  go_wp2_with (go_at_call 38; refine HC.out.mono ?_; rintro e W7 ⟨rfl, hs, ht⟩; refine Hid.out ?_)
  have HM7 := Lib.hid (HM6x.out.step hs ht)
  clear hs ht HC HM6x kk
  refine Lib.hid ?_
  go_wp2_with (refine storeCell rfl 3 _ _ rfl B5 3 (.int .i64 kd) rfl rfl rfl (HM7.out.2.2.1.there (by rw [gca_size]; decide)) infoInt ?_; refine Hid.out ?_)
  have HM8 := Lib.hid (HM7.out.cell (j := 3) (v := .int .i64 kd) (gm1_kind kd))
  clear HM7
  generalize W7.setCell ⟨B5, 3, none⟩ (.int .i64 kd) = W8 at *
  refine Lib.hid ?_
  have HC := Lib.hid (ehead_any HH.out b x3 W8 HM8.out.1)
  rw [E3.out] at HC
  go_wp2_with (go_at_call 39; refine HC.out.mono ?_; rintro e W9 ⟨rfl, hs, ht⟩; refine Hid.out ?_)
  have HM9 := Lib.hid (HM8.out.step hs ht)
  clear hs ht HC HM8
  refine Lib.hid ?_
  go_wp2_with (refine wpList_store_mid rfl 25 _ _ rfl B5 4 (hc (nthI a)) rfl rfl (HM9.out.2.2.1.there (by rw [gca_size, hc_size]; decide)) infoHead (hc_one _) ?_; refine Hid.out ?_)
  have HM10 := Lib.hid (HM9.out.mid (j := 4) (vs := (hc (nthI a)).toList) (gm1_value (nthI a)))
  clear HM9
  generalize W9.setCells B5 4 (hc (nthI a)).toList = W10 at *
  refine Lib.hid ?_
  have HC := Lib.hid (ehead_any HH.out b x4 W10 HM10.out.1)
  rw [E4.out] at HC
  go_wp2_with (go_at_call 39; refine HC.out.mono ?_; rintro e W11 ⟨rfl, hs, ht⟩; refine Hid.out ?_)
  have HM11 := Lib.hid (HM10.out.step hs ht)
  clear hs ht HC HM10
  refine Lib.hid ?_
  go_wp2_with (refine wpList_store_mid rfl 25 _ _ rfl B5 16 (hc (nthI d)) rfl rfl (HM11.out.2.2.1.there (by rw [gca_size, hc_size]; decide)) infoHead (hc_one _) ?_; refine Hid.out ?_)
  have HM12 := Lib.hid (HM11.out.mid (j := 16) (vs := (hc (nthI d)).toList) (gm1_care (nthI d)))
  clear HM11
  generalize W11.setCells B5 16 (hc (nthI d)).toList = W12 at *
  refine Lib.hid ?_
  rw [HJ.out] at HM12
  have HC := Lib.hid (eget_h HH.out b x5 2 (by decide) (by decide) W12 HM12.out.1)
  rw [E5.out] at HC
  go_wp2_with (go_at_call 38; refine HC.out.mono ?_; rintro e W13 ⟨rfl, hs, ht⟩; refine Hid.out ?_)
  have HM13 := Lib.hid (HM12.out.step hs ht)
  clear hs ht HC HM12 
  refine Lib.hid ?_
  go_wp2_with (refine storeCell rfl 3 _ _ rfl B5 28 (.int .i64 pr) rfl rfl rfl (HM13.out.2.2.1.there (by rw [gca_size]; decide)) infoInt ?_; refine Hid.out ?_)
  have HM14 := Lib.hid (HM13.out.cell (j := 28) (v := .int .i64 pr) (gm1_prio pr))
  clear HM13
  generalize W13.setCell ⟨B5, 28, none⟩ (.int .i64 pr) = W14 at *
  refine Lib.hid ?_
  have HC := Lib.hid (eget_h HH.out b x6 4 (by decide) (by decide) W14 HM14.out.1)
  rw [E6.out] at HC
  go_wp2_with (go_at_call 38; refine HC.out.mono ?_; rintro e W15 ⟨rfl, hs, ht⟩; refine Hid.out ?_)
  have HM15 := Lib.hid (HM14.out.step hs ht)
  clear hs ht HC HM14 
  refine Lib.hid ?_
  go_wp2_with (refine storeCell rfl 3 _ _ rfl B5 30 (.int .i64 i) rfl rfl rfl (HM15.out.2.2.1.there (by rw [gca_size]; decide)) infoInt ?_; refine Hid.out ?_)
  have HM16 := Lib.hid (HM15.out.cell (j := 30) (v := .int .i64 i) (gm1_idle i))
  clear HM15
  generalize W15.setCell ⟨B5, 30, none⟩ (.int .i64 i) = W16 at *
  refine Lib.hid ?_
  have HC := Lib.hid (eget_h HH.out b x7 4 (by decide) (by decide) W16 HM16.out.1)
  rw [E7.out] at HC
  go_wp2_with (go_at_call 38; refine HC.out.mono ?_; rintro e W17 ⟨rfl, hs, ht⟩; refine Hid.out ?_)
  have HM17 := Lib.hid (HM16.out.step hs ht)
  clear hs ht HC HM16 
  refine Lib.hid ?_
  go_wp2_with (refine storeCell rfl 3 _ _ rfl B5 31 (.int .i64 h) rfl rfl rfl (HM17.out.2.2.1.there (by rw [gca_size]; decide)) infoInt ?_; refine Hid.out ?_)
  have HM18 := Lib.hid (HM17.out.cell (j := 31) (v := .int .i64 h) (gm1_hard h))
  clear HM17
  generalize W17.setCell ⟨B5, 31, none⟩ (.int .i64 h) = W18 at *
  refine Lib.hid ?_
  have HC := Lib.hid (eget_h HH.out b x8 1 (by decide) (by decide) W18 HM18.out.1)
  rw [E8.out] at HC
  go_wp2_with (go_at_call 38; refine HC.out.mono ?_; rintro e W19 ⟨rfl, hs, ht⟩; refine Hid.out ?_)
  have HM19 := Lib.hid (HM18.out.step hs ht)
  clear hs ht HC HM18 
  refine Lib.hid ?_
  go_wp2_with (refine storeCell rfl 3 _ _ rfl B5 32 (.int .i64 o) rfl rfl rfl (HM19.out.2.2.1.there (by rw [gca_size]; decide)) infoInt ?_; refine Hid.out ?_)
  have HM20 := Lib.hid (HM19.out.cell (j := 32) (v := .int .i64 o) (gm1_owner o))
  clear HM19
  generalize W19.setCell ⟨B5, 32, none⟩ (.int .i64 o) = W20 at *
  refine Lib.hid ?_
  have HC := Lib.hid (eget_h HH.out b x9 1 (by decide) (by decide) W20 HM20.out.1)
  rw [E9.out] at HC
  go_wp2_with (go_at_call 38; refine HC.out.mono ?_; rintro e W21 ⟨rfl, hs, ht⟩; refine Hid.out ?_)
  have HM21 := Lib.hid (HM20.out.step hs ht)
  clear hs ht HC HM20 
  refine Lib.hid ?_
  have hqf : (q == 1) = chkR q := rfl
  go_wp2_with (refine storeCell rfl 4 _ _ rfl B5 33 (.bool (q == 1)) rfl rfl rfl (HM21.out.2.2.1.there (by rw [gca_size]; decide)) infoBo ?_; refine Hid.out ?_)
  have HM22 := Lib.hid (HM21.out.cell (j := 33) (v := .bool (q == 1)) (gm1_check (q == 1)))
  clear HM21
  generalize W21.setCell ⟨B5, 33, none⟩ (.bool (q == 1)) = W22 at *
  refine Lib.hid ?_
  have HC := Lib.hid (eacts_read HH.out b x10 W22 HM22.out.1)
  rw [E10.out] at HC
  have HB5 := Lib.hid (show B5 < W22.heap.size from HM22.out.2.2.1.lt)
  go_wp2_with (go_at_call 40; refine HC.out.mono ?_; rintro e W23 ⟨v, rfl, ho, hs, ht⟩; refine Hid.out ?_)
  obtain ⟨qa, ca, rfl⟩ := ho.form
  have HOa := Lib.hid ho
  have HM23 := Lib.hid (HM22.out.step hs ht)
  clear ho hs ht HC HM22
  refine Lib.hid ?_
  go_wp2_with (refine storeCell rfl 28 _ _ rfl B5 29 (.slice qa ac.length ca) rfl rfl rfl (HM23.out.2.2.1.there (by rw [gca_size]; decide)) infoActs ?_; refine Hid.out ?_)
  have HM24 := Lib.hid (HM23.out.cell (j := 29) (v := .slice qa ac.length ca) (gm1_acts qa ac.length ca ac))
  have HOb := Lib.hid (HOa.out.cset (g := B5) (k := 29) (x := .slice qa ac.length ca) HB5.out)
  clear HOa
  clear HM23
  generalize W23.setCell ⟨B5, 29, none⟩ (.slice qa ac.length ca) = W24 at *
  refine Lib.hid ?_
  have HBd := Lib.hid (show w.heap.size < W22.heap.size by have := HB5.out; have := HM24.out.2.2.2; omega)
  have HO := Lib.hid (show OwnG W22.heap.size (gm1 t kd (cubeOf (a ++ d) 0) pr i h o (q == 1) qa ac.length ca ac) W24 from ⟨HOb.out, OwnRs.nil _ _⟩)
  have HU := Lib.hid (show (gm1 t kd (cubeOf (a ++ d) 0) pr i h o (q == 1) qa ac.length ca ac : Gm).u = ⟨1, t, 0, ⟨kd, cubeOf (a ++ d) 0, pr, ac, i, h, o, chkR q⟩, 0, zHd, []⟩ from rfl)
  clear HOb HB5
  generalize (gm1 t kd (cubeOf (a ++ d) 0) pr i h o (q == 1) qa ac.length ca ac : Gm) = G at *
  generalize (⟨1, t, 0, ⟨kd, cubeOf (a ++ d) 0, pr, ac, i, h, o, chkR q⟩, 0, zHd, []⟩ : Ms) = M at *
  generalize decide (1 < q) = od at *
  have HD := Lib.hid HDW.out.2
  have HWm := Lib.hid HDW.out.1
  clear HDW
  have k1 := HM24.out.1.short
  cases sh
  rotate_left
  · have HE := Lib.hid (HD.out.1 rfl)
    go_wp2_with (refine wpList_store_row rfl 33 _ _ rfl w.heap.size #[Value.int IntKind.i64 0, Value.int IntKind.i64 0, Value.int IntKind.i64 0, Value.int IntKind.i64 0, Value.int IntKind.u64 0, Value.int IntKind.u64 0, Value.int IntKind.u64 0, Value.int IntKind.u64 0, Value.int IntKind.u64 0, Value.int IntKind.u64 0, Value.int IntKind.u64 0, Value.int IntKind.u64 0, Value.int IntKind.u64 0, Value.int IntKind.u64 0, Value.int IntKind.u64 0, Value.int IntKind.u64 0, Value.int IntKind.u64 0, Value.int IntKind.u64 0, Value.int IntKind.u64 0, Value.int IntKind.u64 0, Value.int IntKind.u64 0, Value.int IntKind.u64 0, Value.int IntKind.u64 0, Value.int IntKind.u64 0, Value.int IntKind.u64 0, Value.int IntKind.u64 0, Value.int IntKind.u64 0, Value.int IntKind.u64 0, Value.int IntKind.i64 0, Value.slice none 0 0, Value.int IntKind.i64 0, Value.int IntKind.i64 0, Value.int IntKind.i64 0, Value.bool false, Value.int IntKind.i64 0, Value.int IntKind.u64 0, Value.int IntKind.u64 0, Value.int IntKind.u64 0, Value.int IntKind.u64 0, Value.int IntKind.u64 0, Value.int IntKind.u64 0, Value.int IntKind.u64 0, Value.int IntKind.u64 0, Value.int IntKind.u64 0, Value.int IntKind.u64 0, Value.int IntKind.u64 0, Value.int IntKind.u64 0, Value.slice none 0 0] rfl rfl 33 _ HM24.out.2.1 (by kernel_rfl) rfl (by simp [Value.oneCell']) ?_)
    refine bodyPost_ret (v := .tuple #[.agg (gca zGm), .int .i64 8]) ?_ rfl ⟨zGm, by rw [HE.out.1], by rw [HE.out.2]; rfl, zGm_in _, below_setRow HM24.out.1.kept (Nat.le_refl _) _⟩
    exact res_twoG Tryd.results19 (cs := gca zGm) rfl rfl (by rw [← zGca]; exact HM24.out.2.1.rset _) (gca_size _)
  obtain ⟨j, hj1, hj2, hj3⟩ := HM24.out.1.at
  rw [← HN.out] at hj2 hj3
  cases od
  rotate_left
  · have HE := Lib.hid (HD.out.2.2 rfl (fun q => by have := q.1; simp at this))
    clear hj1 hj2 hj3
    go_wp2_with (refine wpList_store_row rfl 33 _ _ rfl w.heap.size #[Value.int IntKind.i64 0, Value.int IntKind.i64 0, Value.int IntKind.i64 0, Value.int IntKind.i64 0, Value.int IntKind.u64 0, Value.int IntKind.u64 0, Value.int IntKind.u64 0, Value.int IntKind.u64 0, Value.int IntKind.u64 0, Value.int IntKind.u64 0, Value.int IntKind.u64 0, Value.int IntKind.u64 0, Value.int IntKind.u64 0, Value.int IntKind.u64 0, Value.int IntKind.u64 0, Value.int IntKind.u64 0, Value.int IntKind.u64 0, Value.int IntKind.u64 0, Value.int IntKind.u64 0, Value.int IntKind.u64 0, Value.int IntKind.u64 0, Value.int IntKind.u64 0, Value.int IntKind.u64 0, Value.int IntKind.u64 0, Value.int IntKind.u64 0, Value.int IntKind.u64 0, Value.int IntKind.u64 0, Value.int IntKind.u64 0, Value.int IntKind.i64 0, Value.slice none 0 0, Value.int IntKind.i64 0, Value.int IntKind.i64 0, Value.int IntKind.i64 0, Value.bool false, Value.int IntKind.i64 0, Value.int IntKind.u64 0, Value.int IntKind.u64 0, Value.int IntKind.u64 0, Value.int IntKind.u64 0, Value.int IntKind.u64 0, Value.int IntKind.u64 0, Value.int IntKind.u64 0, Value.int IntKind.u64 0, Value.int IntKind.u64 0, Value.int IntKind.u64 0, Value.int IntKind.u64 0, Value.int IntKind.u64 0, Value.slice none 0 0] rfl rfl 33 _ HM24.out.2.1 (by kernel_rfl) rfl (by simp [Value.oneCell']) ?_)
    refine bodyPost_ret (v := .tuple #[.agg (gca zGm), .int .i64 2]) ?_ rfl ⟨zGm, by rw [HE.out.1], by rw [HE.out.2]; rfl, zGm_in _, below_setRow HM24.out.1.kept (Nat.le_refl _) _⟩
    exact res_twoG Tryd.results19 (cs := gca zGm) rfl rfl (by rw [← zGca]; exact HM24.out.2.1.rset _) (gca_size _)
  by_cases hjn : j = n
  rotate_left
  · have HE := Lib.hid (HD.out.2.2 rfl (fun q => hjn (hj3.1 q.2.1)))
    have hne : ((j : Int) == (n : Int)) = false := by rw [beq_eq_false_iff_ne]; omega
    have hne1 : ((j : Int) != (n : Int)) = true := by rw [bne_iff_ne]; omega
    clear hjn hj2 hj3
    go_wp2_with (refine wpList_store_row rfl 33 _ _ rfl w.heap.size #[Value.int IntKind.i64 0, Value.int IntKind.i64 0, Value.int IntKind.i64 0, Value.int IntKind.i64 0, Value.int IntKind.u64 0, Value.int IntKind.u64 0, Value.int IntKind.u64 0, Value.int IntKind.u64 0, Value.int IntKind.u64 0, Value.int IntKind.u64 0, Value.int IntKind.u64 0, Value.int IntKind.u64 0, Value.int IntKind.u64 0, Value.int IntKind.u64 0, Value.int IntKind.u64 0, Value.int IntKind.u64 0, Value.int IntKind.u64 0, Value.int IntKind.u64 0, Value.int IntKind.u64 0, Value.int IntKind.u64 0, Value.int IntKind.u64 0, Value.int IntKind.u64 0, Value.int IntKind.u64 0, Value.int IntKind.u64 0, Value.int IntKind.u64 0, Value.int IntKind.u64 0, Value.int IntKind.u64 0, Value.int IntKind.u64 0, Value.int IntKind.i64 0, Value.slice none 0 0, Value.int IntKind.i64 0, Value.int IntKind.i64 0, Value.int IntKind.i64 0, Value.bool false, Value.int IntKind.i64 0, Value.int IntKind.u64 0, Value.int IntKind.u64 0, Value.int IntKind.u64 0, Value.int IntKind.u64 0, Value.int IntKind.u64 0, Value.int IntKind.u64 0, Value.int IntKind.u64 0, Value.int IntKind.u64 0, Value.int IntKind.u64 0, Value.int IntKind.u64 0, Value.int IntKind.u64 0, Value.int IntKind.u64 0, Value.slice none 0 0] rfl rfl 33 _ HM24.out.2.1 (by kernel_rfl) rfl (by simp [Value.oneCell']) ?_)
    refine bodyPost_ret (v := .tuple #[.agg (gca zGm), .int .i64 2]) ?_ rfl ⟨zGm, by rw [HE.out.1], by rw [HE.out.2]; rfl, zGm_in _, below_setRow HM24.out.1.kept (Nat.le_refl _) _⟩
    exact res_twoG Tryd.results19 (cs := gca zGm) rfl rfl (by rw [← zGca]; exact HM24.out.2.1.rset _) (gca_size _)
  have HZ := Lib.hid (hj3.2 hjn)
  clear hj2 hj3
  subst hjn
  have heq0 : ((j : Int) == (j : Int)) = true := by simp
  have heq1 : ((j : Int) != (j : Int)) = false := by simp
  have HC := Lib.hid (rmsg_any G (by rw [HU.out]; exact HWm.out) W24 HO.out.inG)
  rw [HU.out] at HC
  by_cases hsn : sndMs M = true
  rotate_left
  · have HE := Lib.hid (HD.out.2.2 rfl (fun q => hsn q.2.2))
    rw [eq_false_of_ne_true hsn] at HC
    go_wp2_with (first
      | (refine loadRowG rfl 33 _ rfl B5 rfl 33 (gca G) (0, 0) HM24.out.2.2.1 Tryd.underlying33 rfl (by rw [gca_size]; exact infoG) ?_)
      | (go_at_call 13; refine HC.out.mono ?_; rintro e Wv ⟨rfl, hv⟩; refine Hid.out ?_))
    have HMv := Lib.hid (HM24.out.below hv)
    clear hv HM24 HO HC hj1 k1
    refine Lib.hid ?_
    go_wp2_with (refine wpList_store_row rfl 33 _ _ rfl w.heap.size #[Value.int IntKind.i64 0, Value.int IntKind.i64 0, Value.int IntKind.i64 0, Value.int IntKind.i64 0, Value.int IntKind.u64 0, Value.int IntKind.u64 0, Value.int IntKind.u64 0, Value.int IntKind.u64 0, Value.int IntKind.u64 0, Value.int IntKind.u64 0, Value.int IntKind.u64 0, Value.int IntKind.u64 0, Value.int IntKind.u64 0, Value.int IntKind.u64 0, Value.int IntKind.u64 0, Value.int IntKind.u64 0, Value.int IntKind.u64 0, Value.int IntKind.u64 0, Value.int IntKind.u64 0, Value.int IntKind.u64 0, Value.int IntKind.u64 0, Value.int IntKind.u64 0, Value.int IntKind.u64 0, Value.int IntKind.u64 0, Value.int IntKind.u64 0, Value.int IntKind.u64 0, Value.int IntKind.u64 0, Value.int IntKind.u64 0, Value.int IntKind.i64 0, Value.slice none 0 0, Value.int IntKind.i64 0, Value.int IntKind.i64 0, Value.int IntKind.i64 0, Value.bool false, Value.int IntKind.i64 0, Value.int IntKind.u64 0, Value.int IntKind.u64 0, Value.int IntKind.u64 0, Value.int IntKind.u64 0, Value.int IntKind.u64 0, Value.int IntKind.u64 0, Value.int IntKind.u64 0, Value.int IntKind.u64 0, Value.int IntKind.u64 0, Value.int IntKind.u64 0, Value.int IntKind.u64 0, Value.int IntKind.u64 0, Value.slice none 0 0] rfl rfl 33 _ HMv.out.2.1 (by kernel_rfl) rfl (by simp [Value.oneCell']) ?_)
    refine bodyPost_ret (v := .tuple #[.agg (gca zGm), .int .i64 2]) ?_ rfl ⟨zGm, by rw [HE.out.1], by rw [HE.out.2]; rfl, zGm_in _, below_setRow HMv.out.1.kept (Nat.le_refl _) _⟩
    exact res_twoG Tryd.results19 (cs := gca zGm) rfl rfl (by rw [← zGca]; exact HMv.out.2.1.rset _) (gca_size _)
  have HE := Lib.hid (HD.out.2.1 rfl ⟨by first | rfl | trivial, HZ.out, hsn⟩)
  rw [hsn] at HC
  go_wp2_with (first
    | (refine loadRowG rfl 33 _ rfl B5 rfl 33 (gca G) (0, 0) HM24.out.2.2.1 Tryd.underlying33 rfl (by rw [gca_size]; exact infoG) ?_)
    | (go_at_call 13; refine HC.out.mono ?_; rintro e Wv ⟨rfl, hv⟩; refine Hid.out ?_))
  have HMv := Lib.hid (HM24.out.below hv)
  have HOv := Lib.hid (HO.out.below hv)
  clear hv HM24 HO HC hj1 k1
  refine Lib.hid ?_
  go_wp2_with (first
    | (refine wpList_load_row rfl 33 _ rfl B5 rfl 33 (gca G) (0, 0) _ HMv.out.2.2.1 Tryd.underlying33 rfl (by rw [gca_size]; exact infoG) ?_)
    | (refine wpList_store_row rfl 33 _ _ rfl w.heap.size (gca G) rfl rfl 33 _ HMv.out.2.1 (by kernel_rfl) rfl (gca_one _) ?_))
  refine bodyPost_ret (v := .tuple #[.agg (gca G), .int .i64 0]) ?_ rfl ⟨G, by rw [HE.out.1], by rw [HE.out.2]; exact HU.out, (HOv.out.rset HBd.out).inG, below_setRow HMv.out.1.kept (Nat.le_refl _) _⟩
  exact res_twoG Tryd.results19 (cs := gca G) rfl rfl (HMv.out.2.1.rset _) (gca_size _)
end Go.Proofs.YtndgbgolmpoepaaDoor
