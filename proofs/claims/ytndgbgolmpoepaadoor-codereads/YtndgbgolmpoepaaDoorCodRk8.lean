/-
  The reference's Decode: a packet.
-/
import Derived.Test.YtndgbgolmpoepaaDoorCodRdh
namespace Go.Proofs.YtndgbgolmpoepaaDoor
set_option maxRecDepth 20000
open Go.RowKit

set_option maxRecDepth 100000 in
set_option maxHeartbeats 16000000 in
theorem rdec_8 {p : Option Addr} {c : Nat} {l : List Int} (w : World) (hh : EyH w p c l) {k t : Int} {x1 x2 : Sta} (h0 : gN 1 (l, false) = (k, x1)) (h1 : gN 4 x1 = (t, x2)) (hk : k = 8) :
    Calls Tryd.prog 19 #[.slice p l.length c] w (DecRet w (decE l) (decV l)) := by
  obtain ⟨n, hn⟩ : ∃ n, n = l.length := ⟨_, rfl⟩
  have HH := Lib.hid hh
  have HN := Lib.hid hn
  have hb0 : ByL l := hh.byte
  have rk := gN_rng4 h0 (by decide) hb0
  have b1 := gN_byte1 h0 hb0
  have rt := gN_rng4 h1 (by decide) b1
  have b2 := gN_byte1 h1 b1
  have hpart := gMs_parts chkR h0 h1
  subst hk
  obtain ⟨⟨n1, x3⟩, h2⟩ : ∃ y, gN 1 x2 = y := ⟨_, rfl⟩
  obtain ⟨⟨a, ⟨z, sh⟩⟩, h3⟩ : ∃ y, gNs (List.replicate 12 8) x3 = y := ⟨_, rfl⟩
  have hg : gNs headS x2 = (n1 :: a, (z, sh)) := by
    unfold headS
    rw [gNs, h2]
    simp only
    rw [h3]
  have hX : gMs chkR (l, false) = (((⟨8, t, 0, zMu, n1, headOf (n1 :: a) 1, []⟩ : Ms), false), (z, sh)) := by
    rw [hpart]
    show (((⟨8, t, 0, zMu, nthI (gNs headS x2).1 0, headOf (gNs headS x2).1 1, []⟩ : Ms), false), (gNs headS x2).2) = _
    rw [hg]
    rfl
  have r2 := gN_rng4 h2 (by decide) b2
  have r20 := r2.1
  have r21 := r2.2
  have w2 := wrap_small r2.1 r2.2
  have E2 := Lib.hid h2
  have E3 := Lib.hid h3
  clear r2 h2 h3 hg
  obtain ⟨es, hes⟩ : ∃ es, es = decE l := ⟨_, rfl⟩
  obtain ⟨V, hV⟩ : ∃ V, V = decV l := ⟨_, rfl⟩
  have HDW := Lib.hid (dec_refW hb0 hX)
  rw [← hes, ← hV] at HDW ⊢
  clear hes hV
  have HX := Lib.hid hX
  have E0 := Lib.hid h0
  have E1 := Lib.hid h1
  have rk0 := rk.1
  have rk1 := rk.2
  have rt0 := rt.1
  have rt1 := rt.2
  have wk := wrap_small rk.1 rk.2
  have wt := wrap_small rt.1 rt.2
  clear rk rt b1 b2 hpart hX h0 h1 hb0
  rw [← hn]
  clear hn hh
  have HSP := Lib.hid (Below.refl w.heap.size w)
  go_enter Tryd.func19, Tryd.ntmps19
  go_upto_region 1 with fail
  have R0 := Lib.hid (Blk.new w #[Value.int IntKind.i64 0, Value.int IntKind.i64 0, Value.int IntKind.i64 0, Value.int IntKind.i64 0, Value.int IntKind.u64 0, Value.int IntKind.u64 0, Value.int IntKind.u64 0, Value.int IntKind.u64 0, Value.int IntKind.u64 0, Value.int IntKind.u64 0, Value.int IntKind.u64 0, Value.int IntKind.u64 0, Value.int IntKind.u64 0, Value.int IntKind.u64 0, Value.int IntKind.u64 0, Value.int IntKind.u64 0, Value.int IntKind.u64 0, Value.int IntKind.u64 0, Value.int IntKind.u64 0, Value.int IntKind.u64 0, Value.int IntKind.u64 0, Value.int IntKind.u64 0, Value.int IntKind.u64 0, Value.int IntKind.u64 0, Value.int IntKind.u64 0, Value.int IntKind.u64 0, Value.int IntKind.u64 0, Value.int IntKind.u64 0, Value.int IntKind.i64 0, Value.slice none 0 0, Value.int IntKind.i64 0, Value.int IntKind.i64 0, Value.int IntKind.i64 0, Value.bool false, Value.int IntKind.i64 0, Value.int IntKind.u64 0, Value.int IntKind.u64 0, Value.int IntKind.u64 0, Value.int IntKind.u64 0, Value.int IntKind.u64 0, Value.int IntKind.u64 0, Value.int IntKind.u64 0, Value.int IntKind.u64 0, Value.int IntKind.u64 0, Value.int IntKind.u64 0, Value.int IntKind.u64 0, Value.int IntKind.u64 0, Value.slice none 0 0] 33)
  have K0 := Lib.hid (below1 w (.cells #[Value.int IntKind.i64 0, Value.int IntKind.i64 0, Value.int IntKind.i64 0, Value.int IntKind.i64 0, Value.int IntKind.u64 0, Value.int IntKind.u64 0, Value.int IntKind.u64 0, Value.int IntKind.u64 0, Value.int IntKind.u64 0, Value.int IntKind.u64 0, Value.int IntKind.u64 0, Value.int IntKind.u64 0, Value.int IntKind.u64 0, Value.int IntKind.u64 0, Value.int IntKind.u64 0, Value.int IntKind.u64 0, Value.int IntKind.u64 0, Value.int IntKind.u64 0, Value.int IntKind.u64 0, Value.int IntKind.u64 0, Value.int IntKind.u64 0, Value.int IntKind.u64 0, Value.int IntKind.u64 0, Value.int IntKind.u64 0, Value.int IntKind.u64 0, Value.int IntKind.u64 0, Value.int IntKind.u64 0, Value.int IntKind.u64 0, Value.int IntKind.i64 0, Value.slice none 0 0, Value.int IntKind.i64 0, Value.int IntKind.i64 0, Value.int IntKind.i64 0, Value.bool false, Value.int IntKind.i64 0, Value.int IntKind.u64 0, Value.int IntKind.u64 0, Value.int IntKind.u64 0, Value.int IntKind.u64 0, Value.int IntKind.u64 0, Value.int IntKind.u64 0, Value.int IntKind.u64 0, Value.int IntKind.u64 0, Value.int IntKind.u64 0, Value.int IntKind.u64 0, Value.int IntKind.u64 0, Value.int IntKind.u64 0, Value.slice none 0 0] 33))
  generalize hw : w.alloc (.cells #[Value.int IntKind.i64 0, Value.int IntKind.i64 0, Value.int IntKind.i64 0, Value.int IntKind.i64 0, Value.int IntKind.u64 0, Value.int IntKind.u64 0, Value.int IntKind.u64 0, Value.int IntKind.u64 0, Value.int IntKind.u64 0, Value.int IntKind.u64 0, Value.int IntKind.u64 0, Value.int IntKind.u64 0, Value.int IntKind.u64 0, Value.int IntKind.u64 0, Value.int IntKind.u64 0, Value.int IntKind.u64 0, Value.int IntKind.u64 0, Value.int IntKind.u64 0, Value.int IntKind.u64 0, Value.int IntKind.u64 0, Value.int IntKind.u64 0, Value.int IntKind.u64 0, Value.int IntKind.u64 0, Value.int IntKind.u64 0, Value.int IntKind.u64 0, Value.int IntKind.u64 0, Value.int IntKind.u64 0, Value.int IntKind.u64 0, Value.int IntKind.i64 0, Value.slice none 0 0, Value.int IntKind.i64 0, Value.int IntKind.i64 0, Value.int IntKind.i64 0, Value.bool false, Value.int IntKind.i64 0, Value.int IntKind.u64 0, Value.int IntKind.u64 0, Value.int IntKind.u64 0, Value.int IntKind.u64 0, Value.int IntKind.u64 0, Value.int IntKind.u64 0, Value.int IntKind.u64 0, Value.int IntKind.u64 0, Value.int IntKind.u64 0, Value.int IntKind.u64 0, Value.int IntKind.u64 0, Value.int IntKind.u64 0, Value.slice none 0 0] 33) = W0 at *
  clear hw
  go_upto_region 2 with fail
  have HS1 := Lib.hid (show EyS w W0.heap.size p c l (l, false) (W0.alloc (.cells #[.slice p n c, .int .i64 0, .bool false] 76)) from ⟨0, false, by rw [← HN.out]; exact Blk.new _ _ _, Nat.zero_le _, rfl, K0.out.trans ((below1 _ _).mono K0.out.size), K0.out.size⟩)
  have R1 := Lib.hid (R0.out.old (.cells #[.slice p n c, .int .i64 0, .bool false] 76))
  have HNe := Lib.hid (show w.heap.size < W0.heap.size from R0.out.lt)
  clear R0 K0 HSP
  generalize W0.alloc (.cells #[.slice p n c, .int .i64 0, .bool false] 76) = W1 at *
  generalize W0.heap.size = b at *
  go_upto_region 3 with fail
  have HM2 := Lib.hid (show DgS p c l w b W1.heap.size zGm (l, false) (W1.alloc (.cells #[Value.int IntKind.i64 0, Value.int IntKind.i64 0, Value.int IntKind.i64 0, Value.int IntKind.i64 0, Value.int IntKind.u64 0, Value.int IntKind.u64 0, Value.int IntKind.u64 0, Value.int IntKind.u64 0, Value.int IntKind.u64 0, Value.int IntKind.u64 0, Value.int IntKind.u64 0, Value.int IntKind.u64 0, Value.int IntKind.u64 0, Value.int IntKind.u64 0, Value.int IntKind.u64 0, Value.int IntKind.u64 0, Value.int IntKind.u64 0, Value.int IntKind.u64 0, Value.int IntKind.u64 0, Value.int IntKind.u64 0, Value.int IntKind.u64 0, Value.int IntKind.u64 0, Value.int IntKind.u64 0, Value.int IntKind.u64 0, Value.int IntKind.u64 0, Value.int IntKind.u64 0, Value.int IntKind.u64 0, Value.int IntKind.u64 0, Value.int IntKind.i64 0, Value.slice none 0 0, Value.int IntKind.i64 0, Value.int IntKind.i64 0, Value.int IntKind.i64 0, Value.bool false, Value.int IntKind.i64 0, Value.int IntKind.u64 0, Value.int IntKind.u64 0, Value.int IntKind.u64 0, Value.int IntKind.u64 0, Value.int IntKind.u64 0, Value.int IntKind.u64 0, Value.int IntKind.u64 0, Value.int IntKind.u64 0, Value.int IntKind.u64 0, Value.int IntKind.u64 0, Value.int IntKind.u64 0, Value.int IntKind.u64 0, Value.slice none 0 0] 33)) from ⟨HS1.out.alloc _, R1.out.old _, by rw [← zGca]; exact Blk.new _ _ _, HNe.out, HS1.out.lt⟩)
  clear HS1 R1 HNe
  generalize W1.alloc (.cells #[Value.int IntKind.i64 0, Value.int IntKind.i64 0, Value.int IntKind.i64 0, Value.int IntKind.i64 0, Value.int IntKind.u64 0, Value.int IntKind.u64 0, Value.int IntKind.u64 0, Value.int IntKind.u64 0, Value.int IntKind.u64 0, Value.int IntKind.u64 0, Value.int IntKind.u64 0, Value.int IntKind.u64 0, Value.int IntKind.u64 0, Value.int IntKind.u64 0, Value.int IntKind.u64 0, Value.int IntKind.u64 0, Value.int IntKind.u64 0, Value.int IntKind.u64 0, Value.int IntKind.u64 0, Value.int IntKind.u64 0, Value.int IntKind.u64 0, Value.int IntKind.u64 0, Value.int IntKind.u64 0, Value.int IntKind.u64 0, Value.int IntKind.u64 0, Value.int IntKind.u64 0, Value.int IntKind.u64 0, Value.int IntKind.u64 0, Value.int IntKind.i64 0, Value.slice none 0 0, Value.int IntKind.i64 0, Value.int IntKind.i64 0, Value.int IntKind.i64 0, Value.bool false, Value.int IntKind.i64 0, Value.int IntKind.u64 0, Value.int IntKind.u64 0, Value.int IntKind.u64 0, Value.int IntKind.u64 0, Value.int IntKind.u64 0, Value.int IntKind.u64 0, Value.int IntKind.u64 0, Value.int IntKind.u64 0, Value.int IntKind.u64 0, Value.int IntKind.u64 0, Value.int IntKind.u64 0, Value.int IntKind.u64 0, Value.slice none 0 0] 33) = W2 at *
  generalize W1.heap.size = B5 at *
  have HC := Lib.hid (eget_h HH.out b (l, false) 1 (by decide) (by decide) W2 HM2.out.1)
  rw [E0.out] at HC
  go_wp2_with (go_at_call 38; refine HC.out.mono ?_; rintro e W3 ⟨rfl, hs, ht⟩; refine Hid.out ?_)
  have HM3 := Lib.hid (HM2.out.step hs ht)
  clear hs ht HC HM2 
  refine Lib.hid ?_
  go_wp2_with (refine storeCell rfl 3 _ _ rfl B5 0 (.int .i64 8) rfl rfl rfl (HM3.out.2.2.1.there (by rw [gca_size]; decide)) infoInt ?_; refine Hid.out ?_)
  have HM4 := Lib.hid (HM3.out.cell (j := 0) (v := .int .i64 8) (g0_kind 8))
  clear HM3
  generalize W3.setCell ⟨B5, 0, none⟩ (.int .i64 8) = W4 at *
  refine Lib.hid ?_
  have HC := Lib.hid (eget_h HH.out b x1 4 (by decide) (by decide) W4 HM4.out.1)
  rw [E1.out] at HC
  go_wp2_with (go_at_call 38; refine HC.out.mono ?_; rintro e W5 ⟨rfl, hs, ht⟩; refine Hid.out ?_)
  have HM5 := Lib.hid (HM4.out.step hs ht)
  clear hs ht HC HM4 
  refine Lib.hid ?_
  go_wp2_with (refine storeCell rfl 3 _ _ rfl B5 1 (.int .i64 t) rfl rfl rfl (HM5.out.2.2.1.there (by rw [gca_size]; decide)) infoInt ?_; refine Hid.out ?_)
  have HM6 := Lib.hid (HM5.out.cell (j := 1) (v := .int .i64 t) (g0_txn 8 t))
  clear HM5
  generalize W5.setCell ⟨B5, 1, none⟩ (.int .i64 t) = W6 at *
  refine Lib.hid ?_
  have kk : W6.cell? ⟨B5, 0, none⟩ = some (.int .i64 8) := HM6.out.2.2.1.cellsG.kind
  have HC := Lib.hid (eget_h HH.out b x2 1 (by decide) (by decide) W6 HM6.out.1)
  rw [E2.out] at HC
  go_wp2_with (go_at_call 38; refine HC.out.mono ?_; rintro e W7 ⟨rfl, hs, ht⟩; refine Hid.out ?_)
  have HM7 := Lib.hid (HM6.out.step hs ht)
  clear hs ht HC HM6 kk
  refine Lib.hid ?_
  go_wp2_with (refine storeCell rfl 3 _ _ rfl B5 34 (.int .i64 n1) rfl rfl rfl (HM7.out.2.2.1.there (by rw [gca_size]; decide)) infoInt ?_; refine Hid.out ?_)
  have HM8 := Lib.hid (HM7.out.cell (j := 34) (v := .int .i64 n1) (g2Port 8 t n1))
  clear HM7
  generalize W7.setCell ⟨B5, 34, none⟩ (.int .i64 n1) = W8 at *
  refine Lib.hid ?_
  have HC := Lib.hid (ehead_any HH.out b x3 W8 HM8.out.1)
  rw [E3.out] at HC
  go_wp2_with (go_at_call 39; refine HC.out.mono ?_; rintro e W9 ⟨rfl, hs, ht⟩; refine Hid.out ?_)
  have HM9 := Lib.hid (HM8.out.step hs ht)
  clear hs ht HC HM8
  refine Lib.hid ?_
  go_wp2_with (refine wpList_store_mid rfl 25 _ _ rfl B5 35 (hc (nthI a)) rfl rfl (HM9.out.2.2.1.there (by rw [gca_size, hc_size]; decide)) infoHead (hc_one _) ?_; refine Hid.out ?_)
  have HM10 := Lib.hid (HM9.out.mid (j := 35) (vs := (hc (nthI a)).toList) ((show stM (gca ⟨8, t, 0, zMm, n1, zHd, none, 0, 0, []⟩) 35 (hl (nthI a)) = gca ⟨8, t, 0, zMm, n1, headOf (n1 :: a) 1, none, 0, 0, []⟩ by rw [hl_headOf n1 a]; exact g2Head 8 t n1 _)))
  clear HM9
  generalize W9.setCells B5 35 (hc (nthI a)).toList = W10 at *
  refine Lib.hid ?_
  have HBd := Lib.hid (show w.heap.size < w.heap.size + 1 by omega)
  have HO := Lib.hid (show OwnG (w.heap.size + 1) (⟨8, t, 0, zMm, n1, headOf (n1 :: a) 1, none, 0, 0, []⟩) W10 from ⟨KOwns.nil _ _, OwnRs.nil _ _⟩)
  have HU := Lib.hid (show (⟨8, t, 0, zMm, n1, headOf (n1 :: a) 1, none, 0, 0, []⟩ : Gm).u = ⟨8, t, 0, zMu, n1, headOf (n1 :: a) 1, []⟩ from rfl)
  generalize (⟨8, t, 0, zMm, n1, headOf (n1 :: a) 1, none, 0, 0, []⟩ : Gm) = G at *
  generalize (⟨8, t, 0, zMu, n1, headOf (n1 :: a) 1, []⟩ : Ms) = M at *
  have HD := Lib.hid HDW.out.2
  have HWm := Lib.hid HDW.out.1
  clear HDW
  have k1 := HM10.out.1.short
  cases sh
  rotate_left
  · have HE := Lib.hid (HD.out.1 rfl)
    go_wp2_with (refine wpList_store_row rfl 33 _ _ rfl w.heap.size #[Value.int IntKind.i64 0, Value.int IntKind.i64 0, Value.int IntKind.i64 0, Value.int IntKind.i64 0, Value.int IntKind.u64 0, Value.int IntKind.u64 0, Value.int IntKind.u64 0, Value.int IntKind.u64 0, Value.int IntKind.u64 0, Value.int IntKind.u64 0, Value.int IntKind.u64 0, Value.int IntKind.u64 0, Value.int IntKind.u64 0, Value.int IntKind.u64 0, Value.int IntKind.u64 0, Value.int IntKind.u64 0, Value.int IntKind.u64 0, Value.int IntKind.u64 0, Value.int IntKind.u64 0, Value.int IntKind.u64 0, Value.int IntKind.u64 0, Value.int IntKind.u64 0, Value.int IntKind.u64 0, Value.int IntKind.u64 0, Value.int IntKind.u64 0, Value.int IntKind.u64 0, Value.int IntKind.u64 0, Value.int IntKind.u64 0, Value.int IntKind.i64 0, Value.slice none 0 0, Value.int IntKind.i64 0, Value.int IntKind.i64 0, Value.int IntKind.i64 0, Value.bool false, Value.int IntKind.i64 0, Value.int IntKind.u64 0, Value.int IntKind.u64 0, Value.int IntKind.u64 0, Value.int IntKind.u64 0, Value.int IntKind.u64 0, Value.int IntKind.u64 0, Value.int IntKind.u64 0, Value.int IntKind.u64 0, Value.int IntKind.u64 0, Value.int IntKind.u64 0, Value.int IntKind.u64 0, Value.int IntKind.u64 0, Value.slice none 0 0] rfl rfl 33 _ HM10.out.2.1 (by kernel_rfl) rfl (by simp [Value.oneCell']) ?_)
    refine bodyPost_ret (v := .tuple #[.agg (gca zGm), .int .i64 8]) ?_ rfl ⟨zGm, by rw [HE.out.1], by rw [HE.out.2]; rfl, zGm_in _, below_setRow HM10.out.1.kept (Nat.le_refl _) _⟩
    exact res_twoG Tryd.results19 (cs := gca zGm) rfl rfl (by rw [← zGca]; exact HM10.out.2.1.rset _) (gca_size _)
  obtain ⟨j, hj1, hj2, hj3⟩ := HM10.out.1.at
  rw [← HN.out] at hj2 hj3
  by_cases hjn : j = n
  rotate_left
  · have HE := Lib.hid (HD.out.2.2 rfl (fun q => hjn (hj3.1 q.2.1)))
    have hne : ((j : Int) == (n : Int)) = false := by rw [beq_eq_false_iff_ne]; omega
    have hne1 : ((j : Int) != (n : Int)) = true := by rw [bne_iff_ne]; omega
    clear hjn hj2 hj3
    go_wp2_with (refine wpList_store_row rfl 33 _ _ rfl w.heap.size #[Value.int IntKind.i64 0, Value.int IntKind.i64 0, Value.int IntKind.i64 0, Value.int IntKind.i64 0, Value.int IntKind.u64 0, Value.int IntKind.u64 0, Value.int IntKind.u64 0, Value.int IntKind.u64 0, Value.int IntKind.u64 0, Value.int IntKind.u64 0, Value.int IntKind.u64 0, Value.int IntKind.u64 0, Value.int IntKind.u64 0, Value.int IntKind.u64 0, Value.int IntKind.u64 0, Value.int IntKind.u64 0, Value.int IntKind.u64 0, Value.int IntKind.u64 0, Value.int IntKind.u64 0, Value.int IntKind.u64 0, Value.int IntKind.u64 0, Value.int IntKind.u64 0, Value.int IntKind.u64 0, Value.int IntKind.u64 0, Value.int IntKind.u64 0, Value.int IntKind.u64 0, Value.int IntKind.u64 0, Value.int IntKind.u64 0, Value.int IntKind.i64 0, Value.slice none 0 0, Value.int IntKind.i64 0, Value.int IntKind.i64 0, Value.int IntKind.i64 0, Value.bool false, Value.int IntKind.i64 0, Value.int IntKind.u64 0, Value.int IntKind.u64 0, Value.int IntKind.u64 0, Value.int IntKind.u64 0, Value.int IntKind.u64 0, Value.int IntKind.u64 0, Value.int IntKind.u64 0, Value.int IntKind.u64 0, Value.int IntKind.u64 0, Value.int IntKind.u64 0, Value.int IntKind.u64 0, Value.int IntKind.u64 0, Value.slice none 0 0] rfl rfl 33 _ HM10.out.2.1 (by kernel_rfl) rfl (by simp [Value.oneCell']) ?_)
    refine bodyPost_ret (v := .tuple #[.agg (gca zGm), .int .i64 2]) ?_ rfl ⟨zGm, by rw [HE.out.1], by rw [HE.out.2]; rfl, zGm_in _, below_setRow HM10.out.1.kept (Nat.le_refl _) _⟩
    exact res_twoG Tryd.results19 (cs := gca zGm) rfl rfl (by rw [← zGca]; exact HM10.out.2.1.rset _) (gca_size _)
  have HZ := Lib.hid (hj3.2 hjn)
  clear hj2 hj3
  subst hjn
  have heq0 : ((j : Int) == (j : Int)) = true := by simp
  have heq1 : ((j : Int) != (j : Int)) = false := by simp
  have HC := Lib.hid (rmsg_any G (by rw [HU.out]; exact HWm.out) W10 HO.out.inG)
  rw [HU.out] at HC
  by_cases hsn : sndMs M = true
  rotate_left
  · have HE := Lib.hid (HD.out.2.2 rfl (fun q => hsn q.2.2))
    rw [eq_false_of_ne_true hsn] at HC
    go_wp2_with (first
      | (refine loadRowG rfl 33 _ rfl B5 rfl 33 (gca G) (0, 0) HM10.out.2.2.1 Tryd.underlying33 rfl (by rw [gca_size]; exact infoG) ?_)
      | (go_at_call 13; refine HC.out.mono ?_; rintro e Wv ⟨rfl, hv⟩; refine Hid.out ?_))
    have HMv := Lib.hid (HM10.out.below hv)
    clear hv HM10 HO HC hj1 k1
    refine Lib.hid ?_
    go_wp2_with (refine wpList_store_row rfl 33 _ _ rfl w.heap.size #[Value.int IntKind.i64 0, Value.int IntKind.i64 0, Value.int IntKind.i64 0, Value.int IntKind.i64 0, Value.int IntKind.u64 0, Value.int IntKind.u64 0, Value.int IntKind.u64 0, Value.int IntKind.u64 0, Value.int IntKind.u64 0, Value.int IntKind.u64 0, Value.int IntKind.u64 0, Value.int IntKind.u64 0, Value.int IntKind.u64 0, Value.int IntKind.u64 0, Value.int IntKind.u64 0, Value.int IntKind.u64 0, Value.int IntKind.u64 0, Value.int IntKind.u64 0, Value.int IntKind.u64 0, Value.int IntKind.u64 0, Value.int IntKind.u64 0, Value.int IntKind.u64 0, Value.int IntKind.u64 0, Value.int IntKind.u64 0, Value.int IntKind.u64 0, Value.int IntKind.u64 0, Value.int IntKind.u64 0, Value.int IntKind.u64 0, Value.int IntKind.i64 0, Value.slice none 0 0, Value.int IntKind.i64 0, Value.int IntKind.i64 0, Value.int IntKind.i64 0, Value.bool false, Value.int IntKind.i64 0, Value.int IntKind.u64 0, Value.int IntKind.u64 0, Value.int IntKind.u64 0, Value.int IntKind.u64 0, Value.int IntKind.u64 0, Value.int IntKind.u64 0, Value.int IntKind.u64 0, Value.int IntKind.u64 0, Value.int IntKind.u64 0, Value.int IntKind.u64 0, Value.int IntKind.u64 0, Value.int IntKind.u64 0, Value.slice none 0 0] rfl rfl 33 _ HMv.out.2.1 (by kernel_rfl) rfl (by simp [Value.oneCell']) ?_)
    refine bodyPost_ret (v := .tuple #[.agg (gca zGm), .int .i64 2]) ?_ rfl ⟨zGm, by rw [HE.out.1], by rw [HE.out.2]; rfl, zGm_in _, below_setRow HMv.out.1.kept (Nat.le_refl _) _⟩
    exact res_twoG Tryd.results19 (cs := gca zGm) rfl rfl (by rw [← zGca]; exact HMv.out.2.1.rset _) (gca_size _)
  have HE := Lib.hid (HD.out.2.1 rfl ⟨by first | rfl | trivial, HZ.out, hsn⟩)
  rw [hsn] at HC
  go_wp2_with (first
    | (refine loadRowG rfl 33 _ rfl B5 rfl 33 (gca G) (0, 0) HM10.out.2.2.1 Tryd.underlying33 rfl (by rw [gca_size]; exact infoG) ?_)
    | (go_at_call 13; refine HC.out.mono ?_; rintro e Wv ⟨rfl, hv⟩; refine Hid.out ?_))
  have HMv := Lib.hid (HM10.out.below hv)
  have HOv := Lib.hid (HO.out.below hv)
  clear hv HM10 HO HC hj1 k1
  refine Lib.hid ?_
  go_wp2_with (first
    | (refine wpList_load_row rfl 33 _ rfl B5 rfl 33 (gca G) (0, 0) _ HMv.out.2.2.1 Tryd.underlying33 rfl (by rw [gca_size]; exact infoG) ?_)
    | (refine wpList_store_row rfl 33 _ _ rfl w.heap.size (gca G) rfl rfl 33 _ HMv.out.2.1 (by kernel_rfl) rfl (gca_one _) ?_))
  refine bodyPost_ret (v := .tuple #[.agg (gca G), .int .i64 0]) ?_ rfl ⟨G, by rw [HE.out.1], by rw [HE.out.2]; exact HU.out, (HOv.out.rset HBd.out).inG, below_setRow HMv.out.1.kept (Nat.le_refl _) _⟩
  exact res_twoG Tryd.results19 (cs := gca G) rfl rfl (HMv.out.2.1.rset _) (gca_size _)
end Go.Proofs.YtndgbgolmpoepaaDoor
