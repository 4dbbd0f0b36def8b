/-
  The reference's Decode: rules.
-/
import Derived.Test.YtndgbgolmpoepaaDoorCodRdh
namespace Go.Proofs.YtndgbgolmpoepaaDoor
set_option maxRecDepth 20000
open Go.RowKit

set_option maxRecDepth 100000 in
set_option maxHeartbeats 16000000 in
theorem rdec_10 {p : Option Addr} {c : Nat} {l : List Int} (w : World) (hh : EyH w p c l) {k t : Int} {x1 x2 : Sta} (h0 : gN 1 (l, false) = (k, x1)) (h1 : gN 4 x1 = (t, x2)) (hk : k = 10) :
    Calls Tryd.prog 19 #[.slice p l.length c] w (DecRet w (decE l) (decV l)) := by
  obtain ⟨n, hn⟩ : ∃ n, n = l.length := ⟨_, rfl⟩
  have HH := Lib.hid hh
  have HN := Lib.hid hn
  have hb0 : ByL l := hh.byte
  have rk := gN_rng4 h0 (by decide) hb0
  have b1 := gN_byte1 h0 hb0
  have rt := gN_rng4 h1 (by decide) b1
  have b2 := gN_byte1 h1 b1
  have hpart := gMs_parts chkR h0 h1
  subst hk
  obtain ⟨⟨N0, x3⟩, h2⟩ : ∃ y, gN 2 x2 = y := ⟨_, rfl⟩
  have r2 := gN_rng1 h2 b2
  rw [powB_2] at r2
  obtain ⟨N, rfl⟩ := Int.eq_ofNat_of_zero_le r2.1
  have hN : N ≤ 65535 := by have := r2.2; omega
  have hNI : (N : Int) ≤ 65535 := by omega
  have hN0 : (0 : Int) ≤ (N : Int) := by omega
  have w2 : IntKind.i64.wrap (N : Int) = (N : Int) := wrap_small (by omega) (by omega)
  obtain ⟨⟨us, ⟨z, sh⟩⟩, h3⟩ : ∃ y, gMany gRule N x3 = y := ⟨_, rfl⟩
  have hX : gMs chkR (l, false) = (((⟨10, t, 0, zMu, 0, zHd, us⟩ : Ms), false), (z, sh)) := by
    rw [hpart]
    show (((⟨10, t, 0, zMu, 0, zHd, (gRules x2).1⟩ : Ms), false), (gRules x2).2) = _
    unfold gRules
    rw [h2]
    simp only [Int.toNat_natCast]
    rw [h3]
  have E2 := Lib.hid h2
  have E3 := Lib.hid h3
  have b3 := gN_byte1 h2 b2
  clear r2 h2 h3 b3
  obtain ⟨es, hes⟩ : ∃ es, es = decE l := ⟨_, rfl⟩
  obtain ⟨V, hV⟩ : ∃ V, V = decV l := ⟨_, rfl⟩
  have HDW := Lib.hid (dec_refW hb0 hX)
  rw [← hes, ← hV] at HDW ⊢
  clear hes hV
  have HX := Lib.hid hX
  have E0 := Lib.hid h0
  have E1 := Lib.hid h1
  have rk0 := rk.1
  have rk1 := rk.2
  have rt0 := rt.1
  have rt1 := rt.2
  have wk := wrap_small rk.1 rk.2
  have wt := wrap_small rt.1 rt.2
  clear rk rt b1 b2 hpart hX h0 h1 hb0
  rw [← hn]
  clear hn hh
  have HSP := Lib.hid (Below.refl w.heap.size w)
  go_enter Tryd.func19, Tryd.ntmps19
  go_upto_region 1 with fail
  have R0 := Lib.hid (Blk.new w #[Value.int IntKind.i64 0, Value.int IntKind.i64 0, Value.int IntKind.i64 0, Value.int IntKind.i64 0, Value.int IntKind.u64 0, Value.int IntKind.u64 0, Value.int IntKind.u64 0, Value.int IntKind.u64 0, Value.int IntKind.u64 0, Value.int IntKind.u64 0, Value.int IntKind.u64 0, Value.int IntKind.u64 0, Value.int IntKind.u64 0, Value.int IntKind.u64 0, Value.int IntKind.u64 0, Value.int IntKind.u64 0, Value.int IntKind.u64 0, Value.int IntKind.u64 0, Value.int IntKind.u64 0, Value.int IntKind.u64 0, Value.int IntKind.u64 0, Value.int IntKind.u64 0, Value.int IntKind.u64 0, Value.int IntKind.u64 0, Value.int IntKind.u64 0, Value.int IntKind.u64 0, Value.int IntKind.u64 0, Value.int IntKind.u64 0, Value.int IntKind.i64 0, Value.slice none 0 0, Value.int IntKind.i64 0, Value.int IntKind.i64 0, Value.int IntKind.i64 0, Value.bool false, Value.int IntKind.i64 0, Value.int IntKind.u64 0, Value.int IntKind.u64 0, Value.int IntKind.u64 0, Value.int IntKind.u64 0, Value.int IntKind.u64 0, Value.int IntKind.u64 0, Value.int IntKind.u64 0, Value.int IntKind.u64 0, Value.int IntKind.u64 0, Value.int IntKind.u64 0, Value.int IntKind.u64 0, Value.int IntKind.u64 0, Value.slice none 0 0] 33)
  have K0 := Lib.hid (below1 w (.cells #[Value.int IntKind.i64 0, Value.int IntKind.i64 0, Value.int IntKind.i64 0, Value.int IntKind.i64 0, Value.int IntKind.u64 0, Value.int IntKind.u64 0, Value.int IntKind.u64 0, Value.int IntKind.u64 0, Value.int IntKind.u64 0, Value.int IntKind.u64 0, Value.int IntKind.u64 0, Value.int IntKind.u64 0, Value.int IntKind.u64 0, Value.int IntKind.u64 0, Value.int IntKind.u64 0, Value.int IntKind.u64 0, Value.int IntKind.u64 0, Value.int IntKind.u64 0, Value.int IntKind.u64 0, Value.int IntKind.u64 0, Value.int IntKind.u64 0, Value.int IntKind.u64 0, Value.int IntKind.u64 0, Value.int IntKind.u64 0, Value.int IntKind.u64 0, Value.int IntKind.u64 0, Value.int IntKind.u64 0, Value.int IntKind.u64 0, Value.int IntKind.i64 0, Value.slice none 0 0, Value.int IntKind.i64 0, Value.int IntKind.i64 0, Value.int IntKind.i64 0, Value.bool false, Value.int IntKind.i64 0, Value.int IntKind.u64 0, Value.int IntKind.u64 0, Value.int IntKind.u64 0, Value.int IntKind.u64 0, Value.int IntKind.u64 0, Value.int IntKind.u64 0, Value.int IntKind.u64 0, Value.int IntKind.u64 0, Value.int IntKind.u64 0, Value.int IntKind.u64 0, Value.int IntKind.u64 0, Value.int IntKind.u64 0, Value.slice none 0 0] 33))
  generalize hw : w.alloc (.cells #[Value.int IntKind.i64 0, Value.int IntKind.i64 0, Value.int IntKind.i64 0, Value.int IntKind.i64 0, Value.int IntKind.u64 0, Value.int IntKind.u64 0, Value.int IntKind.u64 0, Value.int IntKind.u64 0, Value.int IntKind.u64 0, Value.int IntKind.u64 0, Value.int IntKind.u64 0, Value.int IntKind.u64 0, Value.int IntKind.u64 0, Value.int IntKind.u64 0, Value.int IntKind.u64 0, Value.int IntKind.u64 0, Value.int IntKind.u64 0, Value.int IntKind.u64 0, Value.int IntKind.u64 0, Value.int IntKind.u64 0, Value.int IntKind.u64 0, Value.int IntKind.u64 0, Value.int IntKind.u64 0, Value.int IntKind.u64 0, Value.int IntKind.u64 0, Value.int IntKind.u64 0, Value.int IntKind.u64 0, Value.int IntKind.u64 0, Value.int IntKind.i64 0, Value.slice none 0 0, Value.int IntKind.i64 0, Value.int IntKind.i64 0, Value.int IntKind.i64 0, Value.bool false, Value.int IntKind.i64 0, Value.int IntKind.u64 0, Value.int IntKind.u64 0, Value.int IntKind.u64 0, Value.int IntKind.u64 0, Value.int IntKind.u64 0, Value.int IntKind.u64 0, Value.int IntKind.u64 0, Value.int IntKind.u64 0, Value.int IntKind.u64 0, Value.int IntKind.u64 0, Value.int IntKind.u64 0, Value.int IntKind.u64 0, Value.slice none 0 0] 33) = W0 at *
  clear hw
  go_upto_region 2 with fail
  have HS1 := Lib.hid (show EyS w W0.heap.size p c l (l, false) (W0.alloc (.cells #[.slice p n c, .int .i64 0, .bool false] 76)) from ⟨0, false, by rw [← HN.out]; exact Blk.new _ _ _, Nat.zero_le _, rfl, K0.out.trans ((below1 _ _).mono K0.out.size), K0.out.size⟩)
  have R1 := Lib.hid (R0.out.old (.cells #[.slice p n c, .int .i64 0, .bool false] 76))
  have HNe := Lib.hid (show w.heap.size < W0.heap.size from R0.out.lt)
  clear R0 K0 HSP
  generalize W0.alloc (.cells #[.slice p n c, .int .i64 0, .bool false] 76) = W1 at *
  generalize W0.heap.size = b at *
  go_upto_region 3 with fail
  have HM2 := Lib.hid (show DgS p c l w b W1.heap.size zGm (l, false) (W1.alloc (.cells #[Value.int IntKind.i64 0, Value.int IntKind.i64 0, Value.int IntKind.i64 0, Value.int IntKind.i64 0, Value.int IntKind.u64 0, Value.int IntKind.u64 0, Value.int IntKind.u64 0, Value.int IntKind.u64 0, Value.int IntKind.u64 0, Value.int IntKind.u64 0, Value.int IntKind.u64 0, Value.int IntKind.u64 0, Value.int IntKind.u64 0, Value.int IntKind.u64 0, Value.int IntKind.u64 0, Value.int IntKind.u64 0, Value.int IntKind.u64 0, Value.int IntKind.u64 0, Value.int IntKind.u64 0, Value.int IntKind.u64 0, Value.int IntKind.u64 0, Value.int IntKind.u64 0, Value.int IntKind.u64 0, Value.int IntKind.u64 0, Value.int IntKind.u64 0, Value.int IntKind.u64 0, Value.int IntKind.u64 0, Value.int IntKind.u64 0, Value.int IntKind.i64 0, Value.slice none 0 0, Value.int IntKind.i64 0, Value.int IntKind.i64 0, Value.int IntKind.i64 0, Value.bool false, Value.int IntKind.i64 0, Value.int IntKind.u64 0, Value.int IntKind.u64 0, Value.int IntKind.u64 0, Value.int IntKind.u64 0, Value.int IntKind.u64 0, Value.int IntKind.u64 0, Value.int IntKind.u64 0, Value.int IntKind.u64 0, Value.int IntKind.u64 0, Value.int IntKind.u64 0, Value.int IntKind.u64 0, Value.int IntKind.u64 0, Value.slice none 0 0] 33)) from ⟨HS1.out.alloc _, R1.out.old _, by rw [← zGca]; exact Blk.new _ _ _, HNe.out, HS1.out.lt⟩)
  clear HS1 R1 HNe
  generalize W1.alloc (.cells #[Value.int IntKind.i64 0, Value.int IntKind.i64 0, Value.int IntKind.i64 0, Value.int IntKind.i64 0, Value.int IntKind.u64 0, Value.int IntKind.u64 0, Value.int IntKind.u64 0, Value.int IntKind.u64 0, Value.int IntKind.u64 0, Value.int IntKind.u64 0, Value.int IntKind.u64 0, Value.int IntKind.u64 0, Value.int IntKind.u64 0, Value.int IntKind.u64 0, Value.int IntKind.u64 0, Value.int IntKind.u64 0, Value.int IntKind.u64 0, Value.int IntKind.u64 0, Value.int IntKind.u64 0, Value.int IntKind.u64 0, Value.int IntKind.u64 0, Value.int IntKind.u64 0, Value.int IntKind.u64 0, Value.int IntKind.u64 0, Value.int IntKind.u64 0, Value.int IntKind.u64 0, Value.int IntKind.u64 0, Value.int IntKind.u64 0, Value.int IntKind.i64 0, Value.slice none 0 0, Value.int IntKind.i64 0, Value.int IntKind.i64 0, Value.int IntKind.i64 0, Value.bool false, Value.int IntKind.i64 0, Value.int IntKind.u64 0, Value.int IntKind.u64 0, Value.int IntKind.u64 0, Value.int IntKind.u64 0, Value.int IntKind.u64 0, Value.int IntKind.u64 0, Value.int IntKind.u64 0, Value.int IntKind.u64 0, Value.int IntKind.u64 0, Value.int IntKind.u64 0, Value.int IntKind.u64 0, Value.int IntKind.u64 0, Value.slice none 0 0] 33) = W2 at *
  generalize W1.heap.size = B5 at *
  have HC := Lib.hid (eget_h HH.out b (l, false) 1 (by decide) (by decide) W2 HM2.out.1)
  rw [E0.out] at HC
  go_wp2_with (go_at_call 38; refine HC.out.mono ?_; rintro e W3 ⟨rfl, hs, ht⟩; refine Hid.out ?_)
  have HM3 := Lib.hid (HM2.out.step hs ht)
  clear hs ht HC HM2 
  refine Lib.hid ?_
  go_wp2_with (refine storeCell rfl 3 _ _ rfl B5 0 (.int .i64 10) rfl rfl rfl (HM3.out.2.2.1.there (by rw [gca_size]; decide)) infoInt ?_; refine Hid.out ?_)
  have HM4 := Lib.hid (HM3.out.cell (j := 0) (v := .int .i64 10) (g0_kind 10))
  clear HM3
  generalize W3.setCell ⟨B5, 0, none⟩ (.int .i64 10) = W4 at *
  refine Lib.hid ?_
  have HC := Lib.hid (eget_h HH.out b x1 4 (by decide) (by decide) W4 HM4.out.1)
  rw [E1.out] at HC
  go_wp2_with (go_at_call 38; refine HC.out.mono ?_; rintro e W5 ⟨rfl, hs, ht⟩; refine Hid.out ?_)
  have HM5 := Lib.hid (HM4.out.step hs ht)
  clear hs ht HC HM4 
  refine Lib.hid ?_
  go_wp2_with (refine storeCell rfl 3 _ _ rfl B5 1 (.int .i64 t) rfl rfl rfl (HM5.out.2.2.1.there (by rw [gca_size]; decide)) infoInt ?_; refine Hid.out ?_)
  have HM6 := Lib.hid (HM5.out.cell (j := 1) (v := .int .i64 t) (g0_txn 10 t))
  clear HM5
  generalize W5.setCell ⟨B5, 1, none⟩ (.int .i64 t) = W6 at *
  refine Lib.hid ?_
  have kk : W6.cell? ⟨B5, 0, none⟩ = some (.int .i64 10) := HM6.out.2.2.1.cellsG.kind
  have HM6x := Lib.hid (show DgS p c l w b B5 (gr 10 t none 0 []) x2 W6 from HM6.out)
  clear HM6
  have HC := Lib.hid (eget_h HH.out b x2 2 (by decide) (by decide) W6 HM6x.out.1)
  rw [E2.out] at HC
  go_wp2_with (go_at_call 38; refine HC.out.mono ?_; rintro e W7 ⟨rfl, hs, ht⟩; refine Hid.out ?_)
  have HM7 := Lib.hid (HM6x.out.step hs ht)
  clear hs ht HC HM6x kk
  refine Lib.hid ?_
  have HBd := Lib.hid (show B5 < W7.heap.size from HM7.out.2.2.1.lt)
  obtain ⟨Bd, hBd⟩ : ∃ Bd, Bd = W7.heap.size := ⟨_, rfl⟩
  rw [← hBd] at HBd
  have HBs := Lib.hid hBd
  clear hBd
  go_wp2_with fail
  go_loopg [9] N (fun gk i wr => ∃ (r : Nat) (L : List Rm) (x' : Sta) (q : Option Addr) (cp : Nat), Hid (L.length = r) ∧ r + gk = N ∧ i = .int .i64 (r : Int) ∧ gMany gRule N x3 = (L.map (·.u) ++ (gMany gRule gk x').1, (gMany gRule gk x').2) ∧ OwnRs Bd (.slice q L.length cp) L wr ∧ DgS p c l w b B5 (gr 10 t q cp L) x' wr ∧ Bd ≤ wr.heap.size)
  case atStart => exact ⟨0, [], x3, none, 0, Lib.hid rfl, by omega, rfl, rfl, OwnRs.nil _ _, HM7.out, Nat.le_of_eq HBs.out⟩
  case round =>
    clear HM7 HBs
    obtain ⟨r, L, x', q, cp, HLr, hr, rfl, he, ho, hm, hbw⟩ := hrel
    have HO := Lib.hid ho
    have HM := Lib.hid hm
    have HE := Lib.hid he
    have HBw := Lib.hid hbw
    have k1 := hm.1.short
    clear ho hm he hbw
    have hr0 : (0 : Int) ≤ (r : Int) := by omega
    by_cases hk : gk = 0
    · subst hk
      have hgk : gMany gRule 0 x' = ([], x') := rfl
      have hrN : ¬ (r : Int) < (N : Int) := by omega
      clear k1
      have HOg := Lib.hid (show OwnG Bd (gr 10 t q cp L) wr from ⟨KOwns.nil _ _, HO.out⟩)
      clear HO
      have HO := Lib.hid HOg.out
      clear HOg
      have HBd := Lib.hid (show w.heap.size < Bd by have := HBd.out; have := HM.out.2.2.2; omega)
      rw [E3.out] at HE
      have hus : us = L.map (·.u) ∧ (z, sh) = x' := by
        have e := HE.out
        rw [hgk] at e
        rw [List.append_nil] at e
        injection e with e1 e2
        exact ⟨e1, e2⟩
      have HU := Lib.hid (show (gr 10 t q cp L).u = ⟨10, t, 0, zMu, 0, zHd, us⟩ by rw [hus.1]; rfl)
      obtain ⟨_, hx⟩ := hus
      subst hx
      clear HE hgk
      generalize (gr 10 t q cp L) = G at *
      generalize (⟨10, t, 0, zMu, 0, zHd, us⟩ : Ms) = M at *
      have HD := Lib.hid HDW.out.2
      have HWm := Lib.hid HDW.out.1
      clear HDW
      have k1 := HM.out.1.short
      cases sh
      rotate_left
      · have HE := Lib.hid (HD.out.1 rfl)
        go_wp2_with (refine wpList_store_row rfl 33 _ _ rfl w.heap.size #[Value.int IntKind.i64 0, Value.int IntKind.i64 0, Value.int IntKind.i64 0, Value.int IntKind.i64 0, Value.int IntKind.u64 0, Value.int IntKind.u64 0, Value.int IntKind.u64 0, Value.int IntKind.u64 0, Value.int IntKind.u64 0, Value.int IntKind.u64 0, Value.int IntKind.u64 0, Value.int IntKind.u64 0, Value.int IntKind.u64 0, Value.int IntKind.u64 0, Value.int IntKind.u64 0, Value.int IntKind.u64 0, Value.int IntKind.u64 0, Value.int IntKind.u64 0, Value.int IntKind.u64 0, Value.int IntKind.u64 0, Value.int IntKind.u64 0, Value.int IntKind.u64 0, Value.int IntKind.u64 0, Value.int IntKind.u64 0, Value.int IntKind.u64 0, Value.int IntKind.u64 0, Value.int IntKind.u64 0, Value.int IntKind.u64 0, Value.int IntKind.i64 0, Value.slice none 0 0, Value.int IntKind.i64 0, Value.int IntKind.i64 0, Value.int IntKind.i64 0, Value.bool false, Value.int IntKind.i64 0, Value.int IntKind.u64 0, Value.int IntKind.u64 0, Value.int IntKind.u64 0, Value.int IntKind.u64 0, Value.int IntKind.u64 0, Value.int IntKind.u64 0, Value.int IntKind.u64 0, Value.int IntKind.u64 0, Value.int IntKind.u64 0, Value.int IntKind.u64 0, Value.int IntKind.u64 0, Value.int IntKind.u64 0, Value.slice none 0 0] rfl rfl 33 _ HM.out.2.1 (by kernel_rfl) rfl (by simp [Value.oneCell']) ?_)
        refine bodyPost_ret (v := .tuple #[.agg (gca zGm), .int .i64 8]) ?_ rfl ⟨zGm, by rw [HE.out.1], by rw [HE.out.2]; rfl, zGm_in _, below_setRow HM.out.1.kept (Nat.le_refl _) _⟩
        exact res_twoG Tryd.results19 (cs := gca zGm) rfl rfl (by rw [← zGca]; exact HM.out.2.1.rset _) (gca_size _)
      obtain ⟨j, hj1, hj2, hj3⟩ := HM.out.1.at
      rw [← HN.out] at hj2 hj3
      by_cases hjn : j = n
      rotate_left
      · have HE := Lib.hid (HD.out.2.2 rfl (fun q => hjn (hj3.1 q.2.1)))
        have hne : ((j : Int) == (n : Int)) = false := by rw [beq_eq_false_iff_ne]; omega
        have hne1 : ((j : Int) != (n : Int)) = true := by rw [bne_iff_ne]; omega
        clear hjn hj2 hj3
        go_wp2_with (refine wpList_store_row rfl 33 _ _ rfl w.heap.size #[Value.int IntKind.i64 0, Value.int IntKind.i64 0, Value.int IntKind.i64 0, Value.int IntKind.i64 0, Value.int IntKind.u64 0, Value.int IntKind.u64 0, Value.int IntKind.u64 0, Value.int IntKind.u64 0, Value.int IntKind.u64 0, Value.int IntKind.u64 0, Value.int IntKind.u64 0, Value.int IntKind.u64 0, Value.int IntKind.u64 0, Value.int IntKind.u64 0, Value.int IntKind.u64 0, Value.int IntKind.u64 0, Value.int IntKind.u64 0, Value.int IntKind.u64 0, Value.int IntKind.u64 0, Value.int IntKind.u64 0, Value.int IntKind.u64 0, Value.int IntKind.u64 0, Value.int IntKind.u64 0, Value.int IntKind.u64 0, Value.int IntKind.u64 0, Value.int IntKind.u64 0, Value.int IntKind.u64 0, Value.int IntKind.u64 0, Value.int IntKind.i64 0, Value.slice none 0 0, Value.int IntKind.i64 0, Value.int IntKind.i64 0, Value.int IntKind.i64 0, Value.bool false, Value.int IntKind.i64 0, Value.int IntKind.u64 0, Value.int IntKind.u64 0, Value.int IntKind.u64 0, Value.int IntKind.u64 0, Value.int IntKind.u64 0, Value.int IntKind.u64 0, Value.int IntKind.u64 0, Value.int IntKind.u64 0, Value.int IntKind.u64 0, Value.int IntKind.u64 0, Value.int IntKind.u64 0, Value.int IntKind.u64 0, Value.slice none 0 0] rfl rfl 33 _ HM.out.2.1 (by kernel_rfl) rfl (by simp [Value.oneCell']) ?_)
        refine bodyPost_ret (v := .tuple #[.agg (gca zGm), .int .i64 2]) ?_ rfl ⟨zGm, by rw [HE.out.1], by rw [HE.out.2]; rfl, zGm_in _, below_setRow HM.out.1.kept (Nat.le_refl _) _⟩
        exact res_twoG Tryd.results19 (cs := gca zGm) rfl rfl (by rw [← zGca]; exact HM.out.2.1.rset _) (gca_size _)
      have HZ := Lib.hid (hj3.2 hjn)
      clear hj2 hj3
      subst hjn
      have heq0 : ((j : Int) == (j : Int)) = true := by simp
      have heq1 : ((j : Int) != (j : Int)) = false := by simp
      have HC := Lib.hid (rmsg_any G (by rw [HU.out]; exact HWm.out) wr HO.out.inG)
      rw [HU.out] at HC
      by_cases hsn : sndMs M = true
      rotate_left
      · have HE := Lib.hid (HD.out.2.2 rfl (fun q => hsn q.2.2))
        rw [eq_false_of_ne_true hsn] at HC
        go_wp2_with (first
          | (refine loadRowG rfl 33 _ rfl B5 rfl 33 (gca G) (0, 0) HM.out.2.2.1 Tryd.underlying33 rfl (by rw [gca_size]; exact infoG) ?_)
          | (go_at_call 13; refine HC.out.mono ?_; rintro e Wv ⟨rfl, hv⟩; refine Hid.out ?_))
        have HMv := Lib.hid (HM.out.below hv)
        clear hv HM HO HC hj1 k1
        refine Lib.hid ?_
        go_wp2_with (refine wpList_store_row rfl 33 _ _ rfl w.heap.size #[Value.int IntKind.i64 0, Value.int IntKind.i64 0, Value.int IntKind.i64 0, Value.int IntKind.i64 0, Value.int IntKind.u64 0, Value.int IntKind.u64 0, Value.int IntKind.u64 0, Value.int IntKind.u64 0, Value.int IntKind.u64 0, Value.int IntKind.u64 0, Value.int IntKind.u64 0, Value.int IntKind.u64 0, Value.int IntKind.u64 0, Value.int IntKind.u64 0, Value.int IntKind.u64 0, Value.int IntKind.u64 0, Value.int IntKind.u64 0, Value.int IntKind.u64 0, Value.int IntKind.u64 0, Value.int IntKind.u64 0, Value.int IntKind.u64 0, Value.int IntKind.u64 0, Value.int IntKind.u64 0, Value.int IntKind.u64 0, Value.int IntKind.u64 0, Value.int IntKind.u64 0, Value.int IntKind.u64 0, Value.int IntKind.u64 0, Value.int IntKind.i64 0, Value.slice none 0 0, Value.int IntKind.i64 0, Value.int IntKind.i64 0, Value.int IntKind.i64 0, Value.bool false, Value.int IntKind.i64 0, Value.int IntKind.u64 0, Value.int IntKind.u64 0, Value.int IntKind.u64 0, Value.int IntKind.u64 0, Value.int IntKind.u64 0, Value.int IntKind.u64 0, Value.int IntKind.u64 0, Value.int IntKind.u64 0, Value.int IntKind.u64 0, Value.int IntKind.u64 0, Value.int IntKind.u64 0, Value.int IntKind.u64 0, Value.slice none 0 0] rfl rfl 33 _ HMv.out.2.1 (by kernel_rfl) rfl (by simp [Value.oneCell']) ?_)
        refine bodyPost_ret (v := .tuple #[.agg (gca zGm), .int .i64 2]) ?_ rfl ⟨zGm, by rw [HE.out.1], by rw [HE.out.2]; rfl, zGm_in _, below_setRow HMv.out.1.kept (Nat.le_refl _) _⟩
        exact res_twoG Tryd.results19 (cs := gca zGm) rfl rfl (by rw [← zGca]; exact HMv.out.2.1.rset _) (gca_size _)
      have HE := Lib.hid (HD.out.2.1 rfl ⟨by first | rfl | trivial, HZ.out, hsn⟩)
      rw [hsn] at HC
      go_wp2_with (first
        | (refine loadRowG rfl 33 _ rfl B5 rfl 33 (gca G) (0, 0) HM.out.2.2.1 Tryd.underlying33 rfl (by rw [gca_size]; exact infoG) ?_)
        | (go_at_call 13; refine HC.out.mono ?_; rintro e Wv ⟨rfl, hv⟩; refine Hid.out ?_))
      have HMv := Lib.hid (HM.out.below hv)
      have HOv := Lib.hid (HO.out.below hv)
      clear hv HM HO HC hj1 k1
      refine Lib.hid ?_
      go_wp2_with (first
        | (refine wpList_load_row rfl 33 _ rfl B5 rfl 33 (gca G) (0, 0) _ HMv.out.2.2.1 Tryd.underlying33 rfl (by rw [gca_size]; exact infoG) ?_)
        | (refine wpList_store_row rfl 33 _ _ rfl w.heap.size (gca G) rfl rfl 33 _ HMv.out.2.1 (by kernel_rfl) rfl (gca_one _) ?_))
      refine bodyPost_ret (v := .tuple #[.agg (gca G), .int .i64 0]) ?_ rfl ⟨G, by rw [HE.out.1], by rw [HE.out.2]; exact HU.out, (HOv.out.rset HBd.out).inG, below_setRow HMv.out.1.kept (Nat.le_refl _) _⟩
      exact res_twoG Tryd.results19 (cs := gca G) rfl rfl (HMv.out.2.1.rset _) (gca_size _)
    obtain ⟨k', rfl⟩ : ∃ k', gk = k' + 1 := ⟨gk - 1, by omega⟩
    have hrN : (r : Int) < (N : Int) := by omega
    cases hsh : x'.2
    rotate_left
    · rw [hsh] at k1
      have hgk : gMany gRule (k' + 1) x' = ([], x') := gMany_stop _ _ hsh
      clear k1
      have HOg := Lib.hid (show OwnG Bd (gr 10 t q cp L) wr from ⟨KOwns.nil _ _, HO.out⟩)
      clear HO
      have HO := Lib.hid HOg.out
      clear HOg
      have HBd := Lib.hid (show w.heap.size < Bd by have := HBd.out; have := HM.out.2.2.2; omega)
      rw [E3.out] at HE
      have hus : us = L.map (·.u) ∧ (z, sh) = x' := by
        have e := HE.out
        rw [hgk] at e
        rw [List.append_nil] at e
        injection e with e1 e2
        exact ⟨e1, e2⟩
      have HU := Lib.hid (show (gr 10 t q cp L).u = ⟨10, t, 0, zMu, 0, zHd, us⟩ by rw [hus.1]; rfl)
      obtain ⟨_, hx⟩ := hus
      subst hx
      clear HE hgk
      generalize (gr 10 t q cp L) = G at *
      generalize (⟨10, t, 0, zMu, 0, zHd, us⟩ : Ms) = M at *
      obtain rfl : sh = true := hsh
      have HD := Lib.hid HDW.out.2
      clear HDW
      have k1 := HM.out.1.short
      have HE := Lib.hid (HD.out.1 rfl)
      go_wp2_with (refine wpList_store_row rfl 33 _ _ rfl w.heap.size #[Value.int IntKind.i64 0, Value.int IntKind.i64 0, Value.int IntKind.i64 0, Value.int IntKind.i64 0, Value.int IntKind.u64 0, Value.int IntKind.u64 0, Value.int IntKind.u64 0, Value.int IntKind.u64 0, Value.int IntKind.u64 0, Value.int IntKind.u64 0, Value.int IntKind.u64 0, Value.int IntKind.u64 0, Value.int IntKind.u64 0, Value.int IntKind.u64 0, Value.int IntKind.u64 0, Value.int IntKind.u64 0, Value.int IntKind.u64 0, Value.int IntKind.u64 0, Value.int IntKind.u64 0, Value.int IntKind.u64 0, Value.int IntKind.u64 0, Value.int IntKind.u64 0, Value.int IntKind.u64 0, Value.int IntKind.u64 0, Value.int IntKind.u64 0, Value.int IntKind.u64 0, Value.int IntKind.u64 0, Value.int IntKind.u64 0, Value.int IntKind.i64 0, Value.slice none 0 0, Value.int IntKind.i64 0, Value.int IntKind.i64 0, Value.int IntKind.i64 0, Value.bool false, Value.int IntKind.i64 0, Value.int IntKind.u64 0, Value.int IntKind.u64 0, Value.int IntKind.u64 0, Value.int IntKind.u64 0, Value.int IntKind.u64 0, Value.int IntKind.u64 0, Value.int IntKind.u64 0, Value.int IntKind.u64 0, Value.int IntKind.u64 0, Value.int IntKind.u64 0, Value.int IntKind.u64 0, Value.int IntKind.u64 0, Value.slice none 0 0] rfl rfl 33 _ HM.out.2.1 (by kernel_rfl) rfl (by simp [Value.oneCell']) ?_)
      refine bodyPost_ret (v := .tuple #[.agg (gca zGm), .int .i64 8]) ?_ rfl ⟨zGm, by rw [HE.out.1], by rw [HE.out.2]; rfl, zGm_in _, below_setRow HM.out.1.kept (Nat.le_refl _) _⟩
      exact res_twoG Tryd.results19 (cs := gca zGm) rfl rfl (by rw [← zGca]; exact HM.out.2.1.rset _) (gca_size _)
    rw [hsh] at k1
    have b0 := HM.out.1.byte HH.out.byte
    obtain ⟨⟨a, y1⟩, q0⟩ : ∃ y, gNs (List.replicate 12 8) x' = y := ⟨_, rfl⟩
    obtain ⟨⟨d, y2⟩, q1⟩ : ∃ y, gNs (List.replicate 12 8) y1 = y := ⟨_, rfl⟩
    obtain ⟨⟨pr, y3⟩, q2⟩ : ∃ y, gN 2 y2 = y := ⟨_, rfl⟩
    obtain ⟨⟨i, y4⟩, q3⟩ : ∃ y, gN 4 y3 = y := ⟨_, rfl⟩
    obtain ⟨⟨h, y5⟩, q4⟩ : ∃ y, gN 4 y4 = y := ⟨_, rfl⟩
    obtain ⟨⟨o, y6⟩, q5⟩ : ∃ y, gN 1 y5 = y := ⟨_, rfl⟩
    obtain ⟨⟨n1, y7⟩, q6⟩ : ∃ y, gN 8 y6 = y := ⟨_, rfl⟩
    obtain ⟨⟨n2, y8⟩, q7⟩ : ∃ y, gN 8 y7 = y := ⟨_, rfl⟩
    obtain ⟨⟨n3, y9⟩, q8⟩ : ∃ y, gN 8 y8 = y := ⟨_, rfl⟩
    obtain ⟨⟨ac, y10⟩, q9⟩ : ∃ y, gActs y9 = y := ⟨_, rfl⟩
    obtain ⟨hc1, hc2⟩ := two_heads q0 q1
    have HG := Lib.hid (gMany_step gRule k' hsh (gRule_parts x' hc1 q2 q3 q4 q5 q6 q7 q8 q9))
    have HJ := Lib.hid hc2
    have c1 := gNs_byte1 q0 b0
    have c2 := gNs_byte1 q1 c1
    have c3 := gN_byte1 q2 c2
    have u2 := gN_rng4 q2 (by decide) c2
    have u20 := u2.1
    have u21 := u2.2
    have v2 := wrap_small u2.1 u2.2
    have c4 := gN_byte1 q3 c3
    have u3 := gN_rng4 q3 (by decide) c3
    have u30 := u3.1
    have u31 := u3.2
    have v3 := wrap_small u3.1 u3.2
    have c5 := gN_byte1 q4 c4
    have u4 := gN_rng4 q4 (by decide) c4
    have u40 := u4.1
    have u41 := u4.2
    have v4 := wrap_small u4.1 u4.2
    have c6 := gN_byte1 q5 c5
    have u5 := gN_rng4 q5 (by decide) c5
    have u50 := u5.1
    have u51 := u5.2
    have v5 := wrap_small u5.1 u5.2
    have c7 := gN_byte1 q6 c6
    have u6 := gN_rng8 q6 c6
    have u60 := u6.1
    have u61 := u6.2
    have v6 := wrap_sgn u6.1 u6.2
    have c8 := gN_byte1 q7 c7
    have u7 := gN_rng8 q7 c7
    have u70 := u7.1
    have u71 := u7.2
    have v7 := wrap_sgn u7.1 u7.2
    have c9 := gN_byte1 q8 c8
    have u8 := gN_rng8 q8 c8
    have u80 := u8.1
    have u81 := u8.2
    have v8 := wrap_sgn u8.1 u8.2
    have Q0 := Lib.hid q0
    have Q1 := Lib.hid q1
    have Q2 := Lib.hid q2
    have Q3 := Lib.hid q3
    have Q4 := Lib.hid q4
    have Q5 := Lib.hid q5
    have Q6 := Lib.hid q6
    have Q7 := Lib.hid q7
    have Q8 := Lib.hid q8
    have Q9 := Lib.hid q9
    clear hc1 hc2 hsh b0 c1 c2 c3 u2 c4 u3 c5 u4 c6 u5 c7 u6 c8 u7 c9 u8 q0 q1 q2 q3 q4 q5 q6 q7 q8 q9
    go_upto_region 31 with fail
    clear k1
    have HM0 := Lib.hid (show RgS p c l w b B5 (gr 10 t q cp L) wr wr.heap.size (ru1 (fun _ => 0) 0 0 0 0 0 0 0) x' (wr.alloc (.cells #[Value.int IntKind.u64 0, Value.int IntKind.u64 0, Value.int IntKind.u64 0, Value.int IntKind.u64 0, Value.int IntKind.u64 0, Value.int IntKind.u64 0, Value.int IntKind.u64 0, Value.int IntKind.u64 0, Value.int IntKind.u64 0, Value.int IntKind.u64 0, Value.int IntKind.u64 0, Value.int IntKind.u64 0, Value.int IntKind.u64 0, Value.int IntKind.u64 0, Value.int IntKind.u64 0, Value.int IntKind.u64 0, Value.int IntKind.u64 0, Value.int IntKind.u64 0, Value.int IntKind.u64 0, Value.int IntKind.u64 0, Value.int IntKind.u64 0, Value.int IntKind.u64 0, Value.int IntKind.u64 0, Value.int IntKind.u64 0, Value.int IntKind.i64 0, Value.slice none 0 0, Value.int IntKind.i64 0, Value.int IntKind.i64 0, Value.int IntKind.i64 0, Value.int IntKind.i64 0, Value.int IntKind.i64 0, Value.int IntKind.i64 0] 65)) from ⟨HM.out.alloc _, EyS.salloc HM.out.1 _, by rw [← ru1_zero]; exact Blk.new _ _ _, HM.out.2.2.1.lt, Nat.le_refl _, HM.out.1.lt⟩)
    generalize wr.alloc (.cells #[Value.int IntKind.u64 0, Value.int IntKind.u64 0, Value.int IntKind.u64 0, Value.int IntKind.u64 0, Value.int IntKind.u64 0, Value.int IntKind.u64 0, Value.int IntKind.u64 0, Value.int IntKind.u64 0, Value.int IntKind.u64 0, Value.int IntKind.u64 0, Value.int IntKind.u64 0, Value.int IntKind.u64 0, Value.int IntKind.u64 0, Value.int IntKind.u64 0, Value.int IntKind.u64 0, Value.int IntKind.u64 0, Value.int IntKind.u64 0, Value.int IntKind.u64 0, Value.int IntKind.u64 0, Value.int IntKind.u64 0, Value.int IntKind.u64 0, Value.int IntKind.u64 0, Value.int IntKind.u64 0, Value.int IntKind.u64 0, Value.int IntKind.i64 0, Value.slice none 0 0, Value.int IntKind.i64 0, Value.int IntKind.i64 0, Value.int IntKind.i64 0, Value.int IntKind.i64 0, Value.int IntKind.i64 0, Value.int IntKind.i64 0] 65) = V0 at *
    obtain ⟨G, hG⟩ : ∃ G, G = wr.heap.size := ⟨_, rfl⟩
    rw [← hG] at HM0 ⊢
    have HGs := Lib.hid hG
    clear hG HM
    have HC := Lib.hid (ehead_any HH.out b x' V0 HM0.out.1.1)
    rw [Q0.out] at HC
    go_wp2_with (go_at_call 39; refine HC.out.mono ?_; rintro e W101 ⟨rfl, hs, ht⟩; refine Hid.out ?_)
    have HM101 := Lib.hid (HM0.out.step hs ht)
    clear hs ht HC HM0
    refine Lib.hid ?_
    go_wp2_with (refine wpList_store_mid rfl 25 _ _ rfl G 0 (hc (nthI a)) rfl rfl (HM101.out.2.2.1.there (by rw [rca_size, hc_size]; decide)) infoHead (hc_one _) ?_; refine Hid.out ?_)
    have HM102 := Lib.hid (HM101.out.mid (j := 0) (vs := (hc (nthI a)).toList) (ru1_value (nthI a)))
    clear HM101
    generalize W101.setCells G 0 (hc (nthI a)).toList = W102 at *
    refine Lib.hid ?_
    have HC := Lib.hid (ehead_any HH.out b y1 W102 HM102.out.1.1)
    rw [Q1.out] at HC
    go_wp2_with (go_at_call 39; refine HC.out.mono ?_; rintro e W103 ⟨rfl, hs, ht⟩; refine Hid.out ?_)
    have HM103 := Lib.hid (HM102.out.step hs ht)
    clear hs ht HC HM102
    refine Lib.hid ?_
    go_wp2_with (refine wpList_store_mid rfl 25 _ _ rfl G 12 (hc (nthI d)) rfl rfl (HM103.out.2.2.1.there (by rw [rca_size, hc_size]; decide)) infoHead (hc_one _) ?_; refine Hid.out ?_)
    have HM104 := Lib.hid (HM103.out.mid (j := 12) (vs := (hc (nthI d)).toList) (ru1_care (nthI d)))
    clear HM103
    generalize W103.setCells G 12 (hc (nthI d)).toList = W104 at *
    refine Lib.hid ?_
    rw [HJ.out] at HM104
    have HC := Lib.hid (eget_h HH.out b y2 2 (by decide) (by decide) W104 HM104.out.1.1)
    rw [Q2.out] at HC
    go_wp2_with (go_at_call 38; refine HC.out.mono ?_; rintro e W105 ⟨rfl, hs, ht⟩; refine Hid.out ?_)
    have HM105 := Lib.hid (HM104.out.step hs ht)
    clear hs ht HC HM104
    refine Lib.hid ?_
    go_wp2_with (refine storeCell rfl 3 _ _ rfl G 24 (.int .i64 pr) rfl rfl rfl (HM105.out.2.2.1.there (by rw [rca_size]; decide)) infoInt ?_; refine Hid.out ?_)
    have HM106 := Lib.hid (HM105.out.cell (j := 24) (v := .int .i64 pr) (ru1_prio pr))
    clear HM105
    generalize W105.setCell ⟨G, 24, none⟩ (.int .i64 pr) = W106 at *
    refine Lib.hid ?_
    have HC := Lib.hid (eget_h HH.out b y3 4 (by decide) (by decide) W106 HM106.out.1.1)
    rw [Q3.out] at HC
    go_wp2_with (go_at_call 38; refine HC.out.mono ?_; rintro e W107 ⟨rfl, hs, ht⟩; refine Hid.out ?_)
    have HM107 := Lib.hid (HM106.out.step hs ht)
    clear hs ht HC HM106
    refine Lib.hid ?_
    go_wp2_with (refine storeCell rfl 3 _ _ rfl G 26 (.int .i64 i) rfl rfl rfl (HM107.out.2.2.1.there (by rw [rca_size]; decide)) infoInt ?_; refine Hid.out ?_)
    have HM108 := Lib.hid (HM107.out.cell (j := 26) (v := .int .i64 i) (ru1_idle i))
    clear HM107
    generalize W107.setCell ⟨G, 26, none⟩ (.int .i64 i) = W108 at *
    refine Lib.hid ?_
    have HC := Lib.hid (eget_h HH.out b y4 4 (by decide) (by decide) W108 HM108.out.1.1)
    rw [Q4.out] at HC
    go_wp2_with (go_at_call 38; refine HC.out.mono ?_; rintro e W109 ⟨rfl, hs, ht⟩; refine Hid.out ?_)
    have HM109 := Lib.hid (HM108.out.step hs ht)
    clear hs ht HC HM108
    refine Lib.hid ?_
    go_wp2_with (refine storeCell rfl 3 _ _ rfl G 27 (.int .i64 h) rfl rfl rfl (HM109.out.2.2.1.there (by rw [rca_size]; decide)) infoInt ?_; refine Hid.out ?_)
    have HM110 := Lib.hid (HM109.out.cell (j := 27) (v := .int .i64 h) (ru1_hard h))
    clear HM109
    generalize W109.setCell ⟨G, 27, none⟩ (.int .i64 h) = W110 at *
    refine Lib.hid ?_
    have HC := Lib.hid (eget_h HH.out b y5 1 (by decide) (by decide) W110 HM110.out.1.1)
    rw [Q5.out] at HC
    go_wp2_with (go_at_call 38; refine HC.out.mono ?_; rintro e W111 ⟨rfl, hs, ht⟩; refine Hid.out ?_)
    have HM111 := Lib.hid (HM110.out.step hs ht)
    clear hs ht HC HM110
    refine Lib.hid ?_
    go_wp2_with (refine storeCell rfl 3 _ _ rfl G 28 (.int .i64 o) rfl rfl rfl (HM111.out.2.2.1.there (by rw [rca_size]; decide)) infoInt ?_; refine Hid.out ?_)
    have HM112 := Lib.hid (HM111.out.cell (j := 28) (v := .int .i64 o) (ru1_owner o))
    clear HM111
    generalize W111.setCell ⟨G, 28, none⟩ (.int .i64 o) = W112 at *
    refine Lib.hid ?_
    have HC := Lib.hid (eget_h HH.out b y6 8 (by decide) (by decide) W112 HM112.out.1.1)
    rw [Q6.out] at HC
    go_wp2_with (go_at_call 38; refine HC.out.mono ?_; rintro e W113 ⟨rfl, hs, ht⟩; refine Hid.out ?_)
    have HM113 := Lib.hid (HM112.out.step hs ht)
    clear hs ht HC HM112
    refine Lib.hid ?_
    go_wp2_with (refine storeCell rfl 3 _ _ rfl G 29 (.int .i64 (sgnI n1)) rfl rfl rfl (HM113.out.2.2.1.there (by rw [rca_size]; decide)) infoInt ?_; refine Hid.out ?_)
    have HM114 := Lib.hid (HM113.out.cell (j := 29) (v := .int .i64 (sgnI n1)) (ru1_hits (sgnI n1)))
    clear HM113
    generalize W113.setCell ⟨G, 29, none⟩ (.int .i64 (sgnI n1)) = W114 at *
    refine Lib.hid ?_
    have HC := Lib.hid (eget_h HH.out b y7 8 (by decide) (by decide) W114 HM114.out.1.1)
    rw [Q7.out] at HC
    go_wp2_with (go_at_call 38; refine HC.out.mono ?_; rintro e W115 ⟨rfl, hs, ht⟩; refine Hid.out ?_)
    have HM115 := Lib.hid (HM114.out.step hs ht)
    clear hs ht HC HM114
    refine Lib.hid ?_
    go_wp2_with (refine storeCell rfl 3 _ _ rfl G 30 (.int .i64 (sgnI n2)) rfl rfl rfl (HM115.out.2.2.1.there (by rw [rca_size]; decide)) infoInt ?_; refine Hid.out ?_)
    have HM116 := Lib.hid (HM115.out.cell (j := 30) (v := .int .i64 (sgnI n2)) (ru1_quiet (sgnI n2)))
    clear HM115
    generalize W115.setCell ⟨G, 30, none⟩ (.int .i64 (sgnI n2)) = W116 at *
    refine Lib.hid ?_
    have HC := Lib.hid (eget_h HH.out b y8 8 (by decide) (by decide) W116 HM116.out.1.1)
    rw [Q8.out] at HC
    go_wp2_with (go_at_call 38; refine HC.out.mono ?_; rintro e W117 ⟨rfl, hs, ht⟩; refine Hid.out ?_)
    have HM117 := Lib.hid (HM116.out.step hs ht)
    clear hs ht HC HM116
    refine Lib.hid ?_
    go_wp2_with (refine storeCell rfl 3 _ _ rfl G 31 (.int .i64 (sgnI n3)) rfl rfl rfl (HM117.out.2.2.1.there (by rw [rca_size]; decide)) infoInt ?_; refine Hid.out ?_)
    have HM118 := Lib.hid (HM117.out.cell (j := 31) (v := .int .i64 (sgnI n3)) (ru1_age (sgnI n3)))
    clear HM117
    generalize W117.setCell ⟨G, 31, none⟩ (.int .i64 (sgnI n3)) = W118 at *
    refine Lib.hid ?_
    have HC := Lib.hid (eacts_read HH.out b y9 W118 HM118.out.1.1)
    rw [Q9.out] at HC
    have HGl := Lib.hid (show G < W118.heap.size ∧ wr.heap.size ≤ W118.heap.size from ⟨HM118.out.2.2.1.lt, HM118.out.2.1.below.size⟩)
    go_wp2_with (go_at_call 40; refine HC.out.mono ?_; rintro e W119 ⟨v, rfl, ho, hs, ht⟩; refine Hid.out ?_)
    obtain ⟨qa, ca, rfl⟩ := ho.form
    have HOa := Lib.hid ho
    have HM119 := Lib.hid (HM118.out.step hs ht)
    clear ho hs ht HC HM118
    refine Lib.hid ?_
    go_wp2_with (refine storeCell rfl 28 _ _ rfl G 25 (.slice qa ac.length ca) rfl rfl rfl (HM119.out.2.2.1.there (by rw [rca_size]; decide)) infoActs ?_; refine Hid.out ?_)
    have HM120 := Lib.hid (HM119.out.cell (j := 25) (v := .slice qa ac.length ca) (ru1_acts qa ac.length ca ac))
    have HOb := Lib.hid (HOa.out.cset (g := G) (k := 25) (x := .slice qa ac.length ca) HGl.out.1)
    clear HOa
    clear HM119
    generalize W119.setCell ⟨G, 25, none⟩ (.slice qa ac.length ca) = W120 at *
    refine Lib.hid ?_
    have HA := Lib.hid (show OwnA Bd (⟨⟨cubeOf (a ++ d) 0, pr, ac, i, h, o, sgnI n1, sgnI n2, sgnI n3⟩, qa, ac.length, ca⟩ : Rm) W120 from KOwns.mono HOb.out (by have := HBw.out; have := HGl.out; omega))
    have HOr := Lib.hid (show OwnRs Bd (.slice q L.length cp) L W120 from ⟨HM120.out.2.1.owns HO.out.1 (by have := HBd.out; have := HM120.out.1.2.2.2; omega), fun y hy => HM120.out.2.1.owns (HO.out.2 y hy) (by have := HBd.out; have := HM120.out.1.2.2.2; omega)⟩)
    have HU := Lib.hid (show (⟨⟨cubeOf (a ++ d) 0, pr, ac, i, h, o, sgnI n1, sgnI n2, sgnI n3⟩, qa, ac.length, ca⟩ : Rm).u = ⟨cubeOf (a ++ d) 0, pr, ac, i, h, o, sgnI n1, sgnI n2, sgnI n3⟩ from rfl)
    clear HOb HO
    generalize (⟨⟨cubeOf (a ++ d) 0, pr, ac, i, h, o, sgnI n1, sgnI n2, sgnI n3⟩, qa, ac.length, ca⟩ : Rm) = rm at *
    have HWs := Lib.hid (show Bd ≤ W120.heap.size by have := HBw.out; have := HM120.out.2.1.below.size; omega)
    have k47 : W120.cell? ⟨B5, 47, none⟩ = some (.slice q L.length cp) := HM120.out.1.2.2.1.cellsG.rules
    have hb1 := below1 W120 (.cells (rca rm) KR.T)
    have HA5 := Lib.hid (HA.out.below hb1)
    have HO5 := Lib.hid (show OwnRs Bd (.slice q L.length cp) L (W120.alloc (.cells (rca rm) KR.T)) from ⟨HOr.out.1.below hb1, fun y hy => OwnA.below (HOr.out.2 y hy) hb1⟩)
    have HM5 := Lib.hid (HM120.out.1.alloc (.cells (rca rm) KR.T))
    have HK5 := Lib.hid (Blk.klies (K := KR) (l := [rm]) (Blk.new W120 (rca rm) KR.T) okR rfl)
    have HW5 := Lib.hid (show Bd ≤ (W120.alloc (.cells (rca rm) KR.T)).heap.size by have := hb1.size; have := HWs.out; omega)
    clear hb1 HOr HA
    skip
    go_wp2_with (first
      | (refine wpList_load_row rfl 65 _ rfl G rfl 65 (rca rm) (0, 0) _ HM120.out.2.2.1 Tryd.underlying65 rfl (by rw [rca_size]; kernel_rfl) ?_)
      | (refine kbuildOne KR okR #[Value.int IntKind.u64 0, Value.int IntKind.u64 0, Value.int IntKind.u64 0, Value.int IntKind.u64 0, Value.int IntKind.u64 0, Value.int IntKind.u64 0, Value.int IntKind.u64 0, Value.int IntKind.u64 0, Value.int IntKind.u64 0, Value.int IntKind.u64 0, Value.int IntKind.u64 0, Value.int IntKind.u64 0, Value.int IntKind.u64 0, Value.int IntKind.u64 0, Value.int IntKind.u64 0, Value.int IntKind.u64 0, Value.int IntKind.u64 0, Value.int IntKind.u64 0, Value.int IntKind.u64 0, Value.int IntKind.u64 0, Value.int IntKind.u64 0, Value.int IntKind.u64 0, Value.int IntKind.u64 0, Value.int IntKind.u64 0, Value.int IntKind.i64 0, Value.slice none 0 0, Value.int IntKind.i64 0, Value.int IntKind.i64 0, Value.int IntKind.i64 0, Value.int IntKind.i64 0, Value.int IntKind.i64 0, Value.int IntKind.i64 0] zeroR rfl _ rfl (rca rm) rfl (by decide) (fillOne rm) ?_)
      | (refine kappend KR okR rfl _ _ rfl Bd _ L [rm] rfl HO5.out.1 _ rfl HK5.out HW5.out (by have := HLr.out; simp; omega) (fun v' w' ho hg => ?_); refine Hid.out ?_))
    have HO6 := Lib.hid (show OwnRs Bd v' (L ++ [rm]) w' from ⟨ho, fun y hy => by
      rcases List.mem_append.1 hy with hy | hy
      · exact KOwns.apart (HO5.out.2 y hy) HO5.out.1 hg
      · simp only [List.mem_cons, List.not_mem_nil, or_false] at hy
        subst hy
        exact KOwns.apart HA5.out HO5.out.1 hg⟩)
    have HM6 := Lib.hid (HM5.out.grow hg fun k e => by have := HO5.out.1.ge k e; have := HBd.out; omega)
    have HW6 := Lib.hid (show Bd ≤ w'.heap.size by have := hg.size; have := HW5.out; omega)
    clear ho hg HO5 HK5 HW5 HA5 HM5 k47 HWs HM120 HGl HBw HGs
    obtain ⟨L', hL'⟩ : ∃ L', L' = L ++ [rm] := ⟨_, rfl⟩
    rw [← hL'] at HO6
    have HL' := Lib.hid hL'
    have HLr' := Lib.hid (show L'.length = r + 1 by rw [hL', List.length_append, HLr.out]; rfl)
    clear hL'
    obtain ⟨q', cp', rfl⟩ := HO6.out.1.form
    refine Lib.hid ?_
    go_wp2_with (refine storeCell rfl 31 _ _ rfl B5 47 (.slice q' L'.length cp') rfl rfl rfl (HM6.out.2.2.1.there (by rw [gca_size]; decide)) infoRs ?_; refine Hid.out ?_)
    have HM7 := Lib.hid (HM6.out.cell (j := 47) (v := .slice q' L'.length cp') (gr_set 10 t q cp L q' cp' L'))
    have HO7 := Lib.hid (show OwnRs Bd (.slice q' L'.length cp') L' (w'.setCell ⟨B5, 47, none⟩ (.slice q' L'.length cp')) from ⟨HO6.out.1.cset HBd.out, fun y hy => KOwns.cset (HO6.out.2 y hy) HBd.out⟩)
    have HW7 := Lib.hid (show Bd ≤ (w'.setCell ⟨B5, 47, none⟩ (.slice q' L'.length cp')).heap.size from Nat.le_trans HW6.out (Nat.le_of_eq (heap_stM_size (g := B5) [.slice q' L'.length cp'] 47 w').symm))
    clear HM6 HO6 HW6
    generalize w'.setCell ⟨B5, 47, none⟩ (.slice q' L'.length cp') = W7 at *
    refine Lib.hid ?_
    go_wp2_with fail
    go_roundg k'
    case measure => omega
    case rel => exact ⟨r + 1, L', y10, q', cp', HLr', by omega, by go_num, by rw [HE.out, HG.out, HL'.out, ← HU.out]; simp, HO7.out, HM7.out, HW7.out⟩
end Go.Proofs.YtndgbgolmpoepaaDoor
