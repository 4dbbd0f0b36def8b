/- PROVED: UnitUndone, what is undone leaves nothing behind. Conditions: none beyond the card's own (the field table of package head is as the program's text lays it, which the card ties). -/
import Derived.Test.YtomnpfbebimpkaaGreatDoorCodArg
import Derived.Test.YtomnpfbebimpkaaGreatDoorPackUniS
namespace Go.Proofs.YtomnpfbebimpkaaGreatDoor
set_option maxRecDepth 20000
open Go.RowKit

theorem infoHead2 : (Tryz.prog.info? 35).map (·.size) = some 12 := by kernel_rfl
theorem boxG {W : World} {b : Nat} {x : Xm} {t : TypeId} (h : Blk b (xca x) t W) : W.rangeAt b 2 (gcl x.g) := by have := (cellsX_mid h.rangeX).g; rwa [Nat.zero_add] at this
theorem boxH {W : World} {b : Nat} {x : Xm} {t : TypeId} (h : Blk b (xca x) t W) : W.rangeAt b 50 (hl x.h) := by have := (cellsX_mid h.rangeX).h; rwa [Nat.zero_add] at this
theorem okOth : okT 2147483648 := ⟨by decide, by decide⟩
theorem same2 {n : Nat} {y : Um} {s : Un} (f : FitM n y) (e : y.un = s) {us : List Ru} {va vb : Value} {La Lb : List Rm} (ha : La.map (·.u) = us) (hb : Lb.map (·.u) = us) (W : World) (h1 : RLies va La W) (h2 : RLies vb Lb W) (hb0 : s.base = us ∨ s.view = us := by first | exact .inl rfl | exact .inr rfl) :
    Calls Tryz.prog 14 #[va, vb] W fun e w' => e = .returned (.bool true) ∧ Below W.heap.size W w' := by
  have hw : WfUL us ∧ us.length ≤ 9000 := by
    subst e
    have h1 := f.fit.size
    have h2 := f.fit.view_len
    have h3 := f.n
    rcases hb0 with rfl | rfl
    · exact ⟨f.fit.base, by omega⟩
    · exact ⟨f.fit.view, by omega⟩
  have hl := congrArg List.length ha
  rw [List.length_map] at hl
  exact rsame_eq va vb La Lb (by omega) (WfUL.rl hw.1 hb) (ha.trans hb.symm) W h1 h2
theorem xcl_len (x : Xm) : (xcl x).length = 62 := by simp [xcl, gcl_len, hl]
set_option maxHeartbeats 400000000 in
set_option maxRecDepth 100000 in
theorem unitUndone_any (v0 : Value) (l : List Mm) (hwl : WfML l) (_ : l.length ≤ 140737488355328) (v1 : Value) (k : List Xm) (hwk : ∀ x ∈ k, WfX x) (_ : k.length ≤ 140737488355328) (txn : Int) (_ : I64 txn) (w : World) (hl : MLies v0 l w) (hk : XLies v1 k w) (ht : Tab w) (hz : 0 < w.heap.size) :
    Calls Tryz.prog 4 #[v0, v1, .int .i64 txn] w fun e w' => e = .returned (.bool true) ∧ Below w.heap.size w w' := by
  obtain ⟨p1, c1, rfl⟩ := hl.1.form
  obtain ⟨p2, c2, rfl⟩ := hk.1.form
  have HL := Lib.hid hl
  have HK := Lib.hid hk
  have HWL := Lib.hid hwl
  have HWK := Lib.hid hwk
  have HZ := Lib.hid hz
  have HT := Lib.hid ht
  have HANS := Lib.hid (fun (W : World) (hb : Below w.heap.size w W) => answers13 W (ht.below hz hb) (Nat.lt_of_lt_of_le hz hb.size))
  obtain ⟨n1, hn1⟩ : ∃ n1, n1 = l.length := ⟨_, rfl⟩
  obtain ⟨n2, hn2⟩ : ∃ n2, n2 = k.length := ⟨_, rfl⟩
  have HN1 := Lib.hid hn1
  have HN2 := Lib.hid hn2
  rw [← hn1] at HL ⊢
  rw [← hn2] at HK ⊢
  clear hl hk hwl hwk ht hz hn1 hn2
  go_enter Tryz.func4, Tryz.ntmps4
  have HC := Lib.hid (st_new 32 32 (by decide) w w (Below.refl _ _) HT.out HZ.out)
  go_upto_region 2 with (first
    | (go_at_call 10; refine HC.out.mono ?_; rintro e W1 ⟨rfl, ha, hb1⟩; have HA := Lib.hid ha; have HC2 := Lib.hid (st_new 32 32 (by decide) w W1 ha.bel ha.tab HZ.out); clear ha hb1 HC)
    | (go_at_call 10; refine HC2.out.mono ?_; rintro e W2 ⟨rfl, hb, hb2⟩; refine Hid.out ?_))
  have HU := Lib.hid (TwoU.start HA.out hb hb2 rfl (Nat.le_refl _))
  clear hb hb2 HA HC2
  generalize nilUm w.heap.size 32 = xa0 at *
  generalize nilUm W1.heap.size 32 = xb0 at *
  generalize hA : w.heap.size = A at HU ⊢
  generalize hB : W1.heap.size = B at HU ⊢
  have HAN := Lib.hid (HANS.out W2 HU.out.env)
  have HAE := Lib.hid hA
  clear hA hB
  by_cases q1 : 60 < n2
  · have q1I : (60 : Int) < (n2 : Int) := by omega
    refine Lib.hid ?_
    go_upto_region 3 with (go_at_call 11; refine HAN.out.mono ?_; rintro e W3 ⟨rfl, hb⟩; have HU1 := Lib.hid (HU.out.below hb); have HAN2 := Lib.hid (HANS.out W3 HU1.out.env); clear hb)
    go_wp2_with (go_at_call 11; refine HAN2.out.mono ?_; rintro e W4 ⟨rfl, hb⟩)
    go_ret
    exact ⟨rfl, (HU1.out.below hb).env⟩
  have q1I : ¬ (60 : Int) < (n2 : Int) := by omega
  by_cases q2 : 20 < n1
  · have q2I : (20 : Int) < (n1 : Int) := by omega
    refine Lib.hid ?_
    go_upto_region 3 with (go_at_call 11; refine HAN.out.mono ?_; rintro e W3 ⟨rfl, hb⟩; have HU1 := Lib.hid (HU.out.below hb); have HAN2 := Lib.hid (HANS.out W3 HU1.out.env); clear hb)
    go_wp2_with (go_at_call 11; refine HAN2.out.mono ?_; rintro e W4 ⟨rfl, hb⟩)
    go_ret
    exact ⟨rfl, (HU1.out.below hb).env⟩
  have q2I : ¬ (20 : Int) < (n1 : Int) := by omega
  by_cases q3 : txn = 2147483648
  · have q3I : (txn == 2147483648) = true := by simpa using q3
    refine Lib.hid ?_
    go_upto_region 3 with (go_at_call 11; refine HAN.out.mono ?_; rintro e W3 ⟨rfl, hb⟩; have HU1 := Lib.hid (HU.out.below hb); have HAN2 := Lib.hid (HANS.out W3 HU1.out.env); clear hb)
    go_wp2_with (go_at_call 11; refine HAN2.out.mono ?_; rintro e W4 ⟨rfl, hb⟩)
    go_ret
    exact ⟨rfl, (HU1.out.below hb).env⟩
  have q3I : (txn == 2147483648) = false := by simpa using q3
  refine Lib.hid ?_
  go_upto_region 5 with (go_at_call 11; refine HAN.out.mono ?_; rintro e W3 ⟨rfl, hb⟩; have HU1 := Lib.hid (HU.out.below hb); clear hb HU HAN)
  clear q1I q2I q3I q3
  go_loopg [9] n1 (fun q s9 wr => ∃ (r : Nat) (xa xb : Um) (s : Un), r + q = n1 ∧ s9 = .int .i64 r ∧ TwoU w A xa s B xb s (4 * r) wr ∧ OneT 2147483648 [] s)
  case atStart => exact ⟨0, xa0, xb0, ⟨32, [], [], false⟩, by omega, rfl, HU1.out, ⟨[], rfl, .inl rfl⟩⟩
  case round =>
    obtain ⟨r, xa, xb, s, hr, rfl, hu, ho⟩ := hrel
    have HU := Lib.hid hu
    have HO := Lib.hid ho
    clear hu ho HU1
    by_cases hlt : r < n1
    · have hltI : (r : Int) < (n1 : Int) := by omega
      obtain ⟨m, hm⟩ := lt_some (l := l) (i := r) (by have := HN1.out; omega)
      obtain ⟨b1, o1, rfl, _⟩ := HL.out.1.at hm
      have HM := Lib.hid hm
      have HIM := Lib.hid (HL.out.2 m (List.mem_of_getElem? hm))
      have HWM := Lib.hid (HWL.out m (List.mem_of_getElem? hm))
      clear hm
      have HR := Lib.hid ((HL.out.1.below okM HU.out.env).at' HM.out)
      have k1 := (cellsM_mid HR.out).sl
      by_cases a1 : m.n ≤ 40
      · have a1I : (m.n : Int) ≤ 40 := by omega
        go_upto_region 9 with (first
          | (refine wpList_load_mid rfl 40 _ rfl b1 (o1 + r * 31) rfl (mcl m) _ HR.out Tryz.underlying40 rfl (by rw [mcl_len]; exact infoM) ?_)
          | (refine wpBuilt3 rfl _ _ _ rfl _ _ _ (builtSnd 2147483648 m) rfl rfl rfl ?_)
          | (refine wpList_store_row rfl 42 _ _ rfl wr.heap.size (gca (sndG 2147483648 m)) rfl rfl 42 _ (heap_alloc_new _ _) (by kernel_rfl) rfl (gca_one _) ?_; rw [World.setRow_alloc_new]))
        have RM := Lib.hid (Blk.new wr (gca (sndG 2147483648 m)) 42)
        have HU1 := Lib.hid (HU.out.below (below1 wr (.cells (gca (sndG 2147483648 m)) 42)))
        clear HU HR k1
        generalize wr.alloc (.cells (gca (sndG 2147483648 m)) 42) = W1 at *
        generalize wr.heap.size = bM at *
        have HC := Lib.hid (st_given HU1.out.a 2147483648 HWM.out HIM.out (by omega))
        go_upto_region 10 with (first
          | (refine wpList_load_row rfl 42 _ rfl bM rfl 42 (gca (sndG 2147483648 m)) (0, 0) _ RM.out Tryz.underlying42 rfl (by rw [gca_size]; exact infoG) ?_)
          | (go_at_call 19; refine HC.out.mono ?_; rintro e W2 ⟨xa1, va, ga, rfl, _, _, hst, hfr⟩; refine Hid.out ?_))
        have HU2 := Lib.hid (HU1.out.onA hst hfr (by omega))
        have RM2 := Lib.hid (hfr.fr.blk RM.out (HU1.out.a.uni.muts.not RM.out.typ (by decide)))
        clear hst hfr HC RM HU1
        have HC := Lib.hid (st_given HU2.out.b 2147483648 HWM.out HIM.out (by omega))
        refine Lib.hid ?_
        go_upto_region 6 with (first
          | (refine wpList_load_row rfl 42 _ rfl bM rfl 42 (gca (sndG 2147483648 m)) (0, 0) _ RM2.out Tryz.underlying42 rfl (by rw [gca_size]; exact infoG) ?_)
          | (go_at_call 19; refine HC.out.mono ?_; rintro e W3 ⟨xb1, vb, gb, rfl, _, _, hst, hfr⟩; refine Hid.out ?_))
        have HU3 := Lib.hid (HU2.out.onB hst hfr (by omega))
        have HO3 := Lib.hid (one_take HO.out (m := modM 2147483648 m.u) rfl (show (1 : Int) ≠ 3 by decide))
        clear hst hfr HC RM2 HU2
        refine Lib.hid ?_
        go_wp2_with fail
        go_roundg (n1 - (r + 1))
        case measure => omega
        case rel => exact ⟨r + 1, xa1, xb1, _, by omega, by go_num, HU3.out.mono (m := 4 * (r + 1)) (by omega) (by omega), HO3.out⟩
      · have a1I : ¬ (m.n : Int) ≤ 40 := by omega
        go_wp2_with fail
        go_roundg (n1 - (r + 1))
        case measure => omega
        case rel => exact ⟨r + 1, xa, xb, s, by omega, by go_num, HU.out.mono (by omega) (by omega), HO.out⟩
    · have hltI : ¬ (r : Int) < (n1 : Int) := by omega
      have hrn : r = n1 := by omega
      obtain ⟨vs, hvs⟩ := one_com okOth HO.out
      have HVS := Lib.hid hvs
      have HC := Lib.hid (st_end HU.out.a 3 2147483648 (by omega))
      rw [hvs] at HC
      clear hvs
      go_upto_region 12 with (first
        | (refine wpBuilt2 rfl _ _ rfl _ _ (builtEnd 3 2147483648) rfl rfl ?_)
        | (go_at_call 19; refine HC.out.mono ?_; rintro e W2 ⟨xa1, va, ga, rfl, _, _, hst, hfr⟩; refine Hid.out ?_))
      have HU1 := Lib.hid (HU.out.onA hst hfr (by omega))
      clear hst hfr HC HU
      have HC := Lib.hid (st_end HU1.out.b 3 2147483648 (by omega))
      rw [HVS.out] at HC
      refine Lib.hid ?_
      go_upto_region 13 with (first
        | (refine wpBuilt2 rfl _ _ rfl _ _ (builtEnd 3 2147483648) rfl rfl ?_)
        | (go_at_call 19; refine HC.out.mono ?_; rintro e W3 ⟨xb1, vb, gb, rfl, _, _, hst, hfr⟩; refine Hid.out ?_))
      have HU2 := Lib.hid ((HU1.out.onB hst hfr (by omega)).mono (m := 90) (by omega) (by omega))
      clear hst hfr HC HU1 HO HVS
      refine Lib.hid ?_
      go_upto_region 14 with fail
      go_loopg [11] n2 (fun q s11 wr => ∃ (r : Nat) (xa xb : Um) (sa : Un) (us : List Ru), r + q = n2 ∧ s11 = .int .i64 r ∧ TwoU w A xa sa B xb ⟨32, us, [], false⟩ (90 + 4 * r) wr ∧ OneT txn us sa)
      case atStart => exact ⟨0, xa1, xb1, _, vs, by omega, rfl, HU2.out, ⟨[], rfl, .inl rfl⟩⟩
      case round =>
        clear hlt hltI hrn hr HU2
        obtain ⟨r2, xc, xd, sa, us, hr, rfl, hu, ho⟩ := hrel
        have HU := Lib.hid hu
        have HO := Lib.hid ho
        clear hu ho
        by_cases hlt : r2 < n2
        · have hltI : (r2 : Int) < (n2 : Int) := by omega
          obtain ⟨x, hx⟩ := lt_some (l := k) (i := r2) (by have := HN2.out; omega)
          obtain ⟨b2, o2, rfl, _⟩ := HK.out.1.at hx
          have HX := Lib.hid hx
          have HIX := Lib.hid (HK.out.2 x (List.mem_of_getElem? hx))
          have HWX := Lib.hid (HWK.out x (List.mem_of_getElem? hx))
          clear hx
          have HR := Lib.hid ((HK.out.1.below okE HU.out.env).at' HX.out)
          go_upto_region 17 with (first
            | (refine wpList_load_mid rfl 44 _ rfl b2 (o2 + r2 * 62) rfl (xcl x) _ HR.out Tryz.underlying44 rfl (by rw [xcl_len]; exact infoX) ?_)
            | (refine wpList_store_row rfl 44 _ _ rfl wr.heap.size (xca x) rfl rfl 44 _ (heap_alloc_new _ _) (by kernel_rfl) rfl (xca_one _) ?_; rw [World.setRow_alloc_new]))
          have RX := Lib.hid (Blk.new wr (xca x) 44)
          have HU1 := Lib.hid (HU.out.below (below1 wr (.cells (xca x) 44)))
          clear HU HR
          generalize wr.alloc (.cells (xca x) 44) = W1 at *
          generalize wr.heap.size = bX at *
          have HLI := Lib.hid (light_any x W1)
          cases hli : lightB x
          · rw [hli] at HLI
            clear hli
            go_wp2_with (first
              | (have hqq := HLI; clear hqq; refine wpList_load_row rfl 44 _ rfl bX rfl 44 (xca x) (0, 0) _ RX.out Tryz.underlying44 rfl (by rw [xca_size]; exact infoX) ?_)
              | (go_at_call 12; refine HLI.out.mono ?_; rintro e W2 ⟨rfl, hb⟩; have RX2 := Lib.hid (RX.out.below hb); have HU2 := Lib.hid (HU1.out.below hb); have k0 : W2.cell? ⟨bX, 0, none⟩ = some (.int .i64 x.what) := (cell_of_row _ bX 0 _ _ _ RX2.out).trans rfl; have k1 : W2.cell? ⟨bX, 1, none⟩ = some (.int .i64 x.n) := (cell_of_row _ bX 1 _ _ _ RX2.out).trans rfl; have k2 : W2.cell? ⟨bX, 2, none⟩ = some (.int .i64 x.g.kind) := (cell_of_row _ bX 2 _ _ _ RX2.out).trans rfl; have k3 : W2.cell? ⟨bX, 3, none⟩ = some (.int .i64 x.g.txn) := (cell_of_row _ bX 3 _ _ _ RX2.out).trans rfl; clear hb HLI))
            go_roundg (n2 - (r2 + 1))
            case measure => omega
            case rel => exact ⟨r2 + 1, _, _, _, us, by omega, by go_num, HU2.out.mono (by omega) (by omega), HO.out⟩
          · rw [hli] at HLI
            clear hli
            by_cases w3 : x.what = 3
            · have f3 : (x.what == 3) = true := by simpa using w3
              go_wp2_with (first
                | (have hqq := HLI; clear hqq; refine wpList_load_row rfl 44 _ rfl bX rfl 44 (xca x) (0, 0) _ RX.out Tryz.underlying44 rfl (by rw [xca_size]; exact infoX) ?_)
                | (go_at_call 12; refine HLI.out.mono ?_; rintro e W2 ⟨rfl, hb⟩; have RX2 := Lib.hid (RX.out.below hb); have HU2 := Lib.hid (HU1.out.below hb); have k0 : W2.cell? ⟨bX, 0, none⟩ = some (.int .i64 x.what) := (cell_of_row _ bX 0 _ _ _ RX2.out).trans rfl; have k1 : W2.cell? ⟨bX, 1, none⟩ = some (.int .i64 x.n) := (cell_of_row _ bX 1 _ _ _ RX2.out).trans rfl; have k2 : W2.cell? ⟨bX, 2, none⟩ = some (.int .i64 x.g.kind) := (cell_of_row _ bX 2 _ _ _ RX2.out).trans rfl; have k3 : W2.cell? ⟨bX, 3, none⟩ = some (.int .i64 x.g.txn) := (cell_of_row _ bX 3 _ _ _ RX2.out).trans rfl; clear hb HLI))
              go_roundg (n2 - (r2 + 1))
              case measure => omega
              case rel => exact ⟨r2 + 1, _, _, _, us, by omega, by go_num, HU2.out.mono (by omega) (by omega), HO.out⟩
            · have f3 : (x.what == 3) = false := by simpa using w3
              by_cases w0 : x.what = 0
              · have f0 : (x.what == 0) = true := by simpa using w0
                by_cases htx : x.g.txn = txn
                · have ft : (x.g.txn == txn) = true := by simpa using htx
                  have ftn : (x.g.txn != txn) = false := by simpa using htx
                  by_cases hk3 : x.g.kind = 3
                  · have fk3 : (x.g.kind == 3) = true := by simpa using hk3
                    go_wp2_with (first
                      | (have hqq := HLI; clear hqq; refine wpList_load_row rfl 44 _ rfl bX rfl 44 (xca x) (0, 0) _ RX.out Tryz.underlying44 rfl (by rw [xca_size]; exact infoX) ?_)
                      | (go_at_call 12; refine HLI.out.mono ?_; rintro e W2 ⟨rfl, hb⟩; have RX2 := Lib.hid (RX.out.below hb); have HU2 := Lib.hid (HU1.out.below hb); have k0 : W2.cell? ⟨bX, 0, none⟩ = some (.int .i64 x.what) := (cell_of_row _ bX 0 _ _ _ RX2.out).trans rfl; have k1 : W2.cell? ⟨bX, 1, none⟩ = some (.int .i64 x.n) := (cell_of_row _ bX 1 _ _ _ RX2.out).trans rfl; have k2 : W2.cell? ⟨bX, 2, none⟩ = some (.int .i64 x.g.kind) := (cell_of_row _ bX 2 _ _ _ RX2.out).trans rfl; have k3 : W2.cell? ⟨bX, 3, none⟩ = some (.int .i64 x.g.txn) := (cell_of_row _ bX 3 _ _ _ RX2.out).trans rfl; clear hb HLI))
                    go_roundg (n2 - (r2 + 1))
                    case measure => omega
                    case rel => exact ⟨r2 + 1, _, _, _, us, by omega, by go_num, HU2.out.mono (by omega) (by omega), HO.out⟩
                  · have fk3 : (x.g.kind == 3) = false := by simpa using hk3
                    by_cases hq : x.g.kind = 1
                    · have fq : (x.g.kind == 1) = true := by simpa using hq
                      clear hq
                      go_upto_region 20 with (first
                        | (have hqq := HLI; clear hqq; refine wpList_load_row rfl 44 _ rfl bX rfl 44 (xca x) (0, 0) _ RX.out Tryz.underlying44 rfl (by rw [xca_size]; exact infoX) ?_)
                        | (go_at_call 12; refine HLI.out.mono ?_; rintro e W2 ⟨rfl, hb⟩; have RX2 := Lib.hid (RX.out.below hb); have HU2 := Lib.hid (HU1.out.below hb); have k0 : W2.cell? ⟨bX, 0, none⟩ = some (.int .i64 x.what) := (cell_of_row _ bX 0 _ _ _ RX2.out).trans rfl; have k1 : W2.cell? ⟨bX, 1, none⟩ = some (.int .i64 x.n) := (cell_of_row _ bX 1 _ _ _ RX2.out).trans rfl; have k2 : W2.cell? ⟨bX, 2, none⟩ = some (.int .i64 x.g.kind) := (cell_of_row _ bX 2 _ _ _ RX2.out).trans rfl; have k3 : W2.cell? ⟨bX, 3, none⟩ = some (.int .i64 x.g.txn) := (cell_of_row _ bX 3 _ _ _ RX2.out).trans rfl; clear hb HLI))
                      go_upto_region 21 with fail
                      clear k0 k1 k2 k3
                      have HG1 := Lib.hid (boxG RX2.out)
                      have HIG := Lib.hid (HIX.out.below HU2.out.env)
                      have HC := Lib.hid (st_take HU2.out.a x.g HWX.out.g.ms HIG.out (HU2.out.a.stM HIX.out.1) (by omega))
                      go_upto_region 23 with (first
                        | (refine wpList_load_mid rfl 42 _ rfl bX 2 rfl (gcl x.g) _ HG1.out Tryz.underlying42 rfl (by rw [gcl_len]; exact infoG) ?_)
                        | (go_at_call 19; refine HC.out.mono ?_; rintro e W3 ⟨xe, vp, gp, rfl, _, _, hst, hfr⟩; refine Hid.out ?_))
                      have HU3 := Lib.hid (HU2.out.onA hst hfr (by omega))
                      have RX3 := Lib.hid (hfr.fr.blk RX2.out (HU2.out.a.uni.muts.not RX2.out.typ (by decide)))
                      clear hst hfr HC HG1 HIG HU2 RX2
                      have k3 : W3.cell? ⟨bX, 3, none⟩ = some (.int .i64 x.g.txn) := (cell_of_row _ bX 3 _ _ _ RX3.out).trans rfl
                      have HO3 := Lib.hid (one_take HO.out (m := x.g.u) htx hk3)
                      refine Lib.hid ?_
                      go_upto_region 31 with fail
                      have HCA := Lib.hid (st_base HU3.out.a)
                      rw [(HO3.out).base] at HCA
                      go_wp2_with (first
                        | (go_at_call 15; refine HCA.out.mono ?_; rintro e u1 ⟨va, La, rfl, hua, hoa, hb⟩; have HUA := Lib.hid hua; have HOA := Lib.hid hoa; have HV2 := Lib.hid (HU3.out.below hb); have HCB := Lib.hid (st_base HV2.out.b); clear hua hoa hb HCA)
                        | (go_at_call 15; refine HCB.out.mono ?_; rintro e u2 ⟨vb, Lb, rfl, hub, hob, hb⟩; have HV3 := Lib.hid (HV2.out.below hb); have HSA := Lib.hid (same2 (f := HV2.out.b.fit) (e := HV2.out.b.un) HUA.out hub u2 (HOA.out.below hb).lies hob.lies); clear hub hob hb HCB)
                        | (go_at_call 14; refine HSA.out.mono ?_; rintro e u3 ⟨rfl, hb⟩; have HV4 := Lib.hid (HV3.out.below hb); clear hb HSA))
                      go_roundg (n2 - (r2 + 1))
                      case measure => omega
                      case rel => exact ⟨r2 + 1, _, _, _, us, by omega, by go_num, HV4.out.mono (by omega) (by omega), HO3.out⟩
                    · have fq : (x.g.kind == 1) = false := by simpa using hq
                      clear hq
                      go_upto_region 20 with (first
                        | (have hqq := HLI; clear hqq; refine wpList_load_row rfl 44 _ rfl bX rfl 44 (xca x) (0, 0) _ RX.out Tryz.underlying44 rfl (by rw [xca_size]; exact infoX) ?_)
                        | (go_at_call 12; refine HLI.out.mono ?_; rintro e W2 ⟨rfl, hb⟩; have RX2 := Lib.hid (RX.out.below hb); have HU2 := Lib.hid (HU1.out.below hb); have k0 : W2.cell? ⟨bX, 0, none⟩ = some (.int .i64 x.what) := (cell_of_row _ bX 0 _ _ _ RX2.out).trans rfl; have k1 : W2.cell? ⟨bX, 1, none⟩ = some (.int .i64 x.n) := (cell_of_row _ bX 1 _ _ _ RX2.out).trans rfl; have k2 : W2.cell? ⟨bX, 2, none⟩ = some (.int .i64 x.g.kind) := (cell_of_row _ bX 2 _ _ _ RX2.out).trans rfl; have k3 : W2.cell? ⟨bX, 3, none⟩ = some (.int .i64 x.g.txn) := (cell_of_row _ bX 3 _ _ _ RX2.out).trans rfl; clear hb HLI))
                      go_upto_region 21 with fail
                      clear k0 k1 k2 k3
                      have HG1 := Lib.hid (boxG RX2.out)
                      have HIG := Lib.hid (HIX.out.below HU2.out.env)
                      have HC := Lib.hid (st_take HU2.out.a x.g HWX.out.g.ms HIG.out (HU2.out.a.stM HIX.out.1) (by omega))
                      go_upto_region 23 with (first
                        | (refine wpList_load_mid rfl 42 _ rfl bX 2 rfl (gcl x.g) _ HG1.out Tryz.underlying42 rfl (by rw [gcl_len]; exact infoG) ?_)
                        | (go_at_call 19; refine HC.out.mono ?_; rintro e W3 ⟨xe, vp, gp, rfl, _, _, hst, hfr⟩; refine Hid.out ?_))
                      have HU3 := Lib.hid (HU2.out.onA hst hfr (by omega))
                      have RX3 := Lib.hid (hfr.fr.blk RX2.out (HU2.out.a.uni.muts.not RX2.out.typ (by decide)))
                      clear hst hfr HC HG1 HIG HU2 RX2
                      have k3 : W3.cell? ⟨bX, 3, none⟩ = some (.int .i64 x.g.txn) := (cell_of_row _ bX 3 _ _ _ RX3.out).trans rfl
                      have HO3 := Lib.hid (one_take HO.out (m := x.g.u) htx hk3)
                      refine Lib.hid ?_
                      go_upto_region 31 with fail
                      have HCA := Lib.hid (st_base HU3.out.a)
                      rw [(HO3.out).base] at HCA
                      go_wp2_with (first
                        | (go_at_call 15; refine HCA.out.mono ?_; rintro e u1 ⟨va, La, rfl, hua, hoa, hb⟩; have HUA := Lib.hid hua; have HOA := Lib.hid hoa; have HV2 := Lib.hid (HU3.out.below hb); have HCB := Lib.hid (st_base HV2.out.b); clear hua hoa hb HCA)
                        | (go_at_call 15; refine HCB.out.mono ?_; rintro e u2 ⟨vb, Lb, rfl, hub, hob, hb⟩; have HV3 := Lib.hid (HV2.out.below hb); have HSA := Lib.hid (same2 (f := HV2.out.b.fit) (e := HV2.out.b.un) HUA.out hub u2 (HOA.out.below hb).lies hob.lies); clear hub hob hb HCB)
                        | (go_at_call 14; refine HSA.out.mono ?_; rintro e u3 ⟨rfl, hb⟩; have HV4 := Lib.hid (HV3.out.below hb); clear hb HSA))
                      go_roundg (n2 - (r2 + 1))
                      case measure => omega
                      case rel => exact ⟨r2 + 1, _, _, _, us, by omega, by go_num, HV4.out.mono (by omega) (by omega), HO3.out⟩
                · have ft : (x.g.txn == txn) = false := by simpa using htx
                  have ftn : (x.g.txn != txn) = true := by simpa using htx
                  by_cases hk1 : x.g.kind = 1
                  · have fk1 : (x.g.kind == 1) = true := by simpa using hk1
                    go_wp2_with (first
                      | (have hqq := HLI; clear hqq; refine wpList_load_row rfl 44 _ rfl bX rfl 44 (xca x) (0, 0) _ RX.out Tryz.underlying44 rfl (by rw [xca_size]; exact infoX) ?_)
                      | (go_at_call 12; refine HLI.out.mono ?_; rintro e W2 ⟨rfl, hb⟩; have RX2 := Lib.hid (RX.out.below hb); have HU2 := Lib.hid (HU1.out.below hb); have k0 : W2.cell? ⟨bX, 0, none⟩ = some (.int .i64 x.what) := (cell_of_row _ bX 0 _ _ _ RX2.out).trans rfl; have k1 : W2.cell? ⟨bX, 1, none⟩ = some (.int .i64 x.n) := (cell_of_row _ bX 1 _ _ _ RX2.out).trans rfl; have k2 : W2.cell? ⟨bX, 2, none⟩ = some (.int .i64 x.g.kind) := (cell_of_row _ bX 2 _ _ _ RX2.out).trans rfl; have k3 : W2.cell? ⟨bX, 3, none⟩ = some (.int .i64 x.g.txn) := (cell_of_row _ bX 3 _ _ _ RX2.out).trans rfl; clear hb HLI))
                    go_roundg (n2 - (r2 + 1))
                    case measure => omega
                    case rel => exact ⟨r2 + 1, _, _, _, us, by omega, by go_num, HU2.out.mono (by omega) (by omega), HO.out⟩
                  · have fk1 : (x.g.kind == 1) = false := by simpa using hk1
                    by_cases hq : x.g.kind = 3
                    · have fq : (x.g.kind == 3) = true := by simpa using hq
                      clear hq
                      go_upto_region 20 with (first
                        | (have hqq := HLI; clear hqq; refine wpList_load_row rfl 44 _ rfl bX rfl 44 (xca x) (0, 0) _ RX.out Tryz.underlying44 rfl (by rw [xca_size]; exact infoX) ?_)
                        | (go_at_call 12; refine HLI.out.mono ?_; rintro e W2 ⟨rfl, hb⟩; have RX2 := Lib.hid (RX.out.below hb); have HU2 := Lib.hid (HU1.out.below hb); have k0 : W2.cell? ⟨bX, 0, none⟩ = some (.int .i64 x.what) := (cell_of_row _ bX 0 _ _ _ RX2.out).trans rfl; have k1 : W2.cell? ⟨bX, 1, none⟩ = some (.int .i64 x.n) := (cell_of_row _ bX 1 _ _ _ RX2.out).trans rfl; have k2 : W2.cell? ⟨bX, 2, none⟩ = some (.int .i64 x.g.kind) := (cell_of_row _ bX 2 _ _ _ RX2.out).trans rfl; have k3 : W2.cell? ⟨bX, 3, none⟩ = some (.int .i64 x.g.txn) := (cell_of_row _ bX 3 _ _ _ RX2.out).trans rfl; clear hb HLI))
                      go_upto_region 21 with fail
                      clear k0 k1 k2 k3
                      have HG1 := Lib.hid (boxG RX2.out)
                      have HIG := Lib.hid (HIX.out.below HU2.out.env)
                      have HC := Lib.hid (st_take HU2.out.a x.g HWX.out.g.ms HIG.out (HU2.out.a.stM HIX.out.1) (by omega))
                      go_upto_region 23 with (first
                        | (refine wpList_load_mid rfl 42 _ rfl bX 2 rfl (gcl x.g) _ HG1.out Tryz.underlying42 rfl (by rw [gcl_len]; exact infoG) ?_)
                        | (go_at_call 19; refine HC.out.mono ?_; rintro e W3 ⟨xe, vp, gp, rfl, _, _, hst, hfr⟩; refine Hid.out ?_))
                      have HU3 := Lib.hid (HU2.out.onA hst hfr (by omega))
                      have RX3 := Lib.hid (hfr.fr.blk RX2.out (HU2.out.a.uni.muts.not RX2.out.typ (by decide)))
                      clear hst hfr HC HG1 HIG HU2 RX2
                      have k3 : W3.cell? ⟨bX, 3, none⟩ = some (.int .i64 x.g.txn) := (cell_of_row _ bX 3 _ _ _ RX3.out).trans rfl
                      have HO3 := Lib.hid (show OneT txn us (takeS sa x.g.u) by rw [one_other HO.out (m := x.g.u) htx hk1]; exact HO.out)
                      have HB3 := Lib.hid (one_other0 (us := us) (m := x.g.u) hk1)
                      have HG3 := Lib.hid (boxG RX3.out)
                      have HIG := Lib.hid (HIX.out.below HU3.out.env)
                      have HC := Lib.hid (st_take HU3.out.b x.g HWX.out.g.ms HIG.out (HU3.out.b.stM HIX.out.1) (by omega))
                      rw [HB3.out] at HC
                      refine Lib.hid ?_
                      go_upto_region 31 with (first
                        | (refine wpList_load_mid rfl 42 _ rfl bX 2 rfl (gcl x.g) _ HG3.out Tryz.underlying42 rfl (by rw [gcl_len]; exact infoG) ?_)
                        | (go_at_call 19; refine HC.out.mono ?_; rintro e W4 ⟨xf, vq, gq, rfl, _, _, hst, hfr⟩; refine Hid.out ?_))
                      have HU4 := Lib.hid (HU3.out.onB hst hfr (by omega))
                      clear hst hfr HC HG3 HIG HU3 RX3 k3
                      have HCA := Lib.hid (st_base HU4.out.a)
                      rw [(HO3.out).base] at HCA
                      refine Lib.hid ?_
                      go_wp2_with (first
                        | (go_at_call 15; refine HCA.out.mono ?_; rintro e u1 ⟨va, La, rfl, hua, hoa, hb⟩; have HUA := Lib.hid hua; have HOA := Lib.hid hoa; have HV2 := Lib.hid (HU4.out.below hb); have HCB := Lib.hid (st_base HV2.out.b); clear hua hoa hb HCA)
                        | (go_at_call 15; refine HCB.out.mono ?_; rintro e u2 ⟨vb, Lb, rfl, hub, hob, hb⟩; have HV3 := Lib.hid (HV2.out.below hb); have HSA := Lib.hid (same2 (f := HV2.out.b.fit) (e := HV2.out.b.un) HUA.out hub u2 (HOA.out.below hb).lies hob.lies); clear hub hob hb HCB)
                        | (go_at_call 14; refine HSA.out.mono ?_; rintro e u3 ⟨rfl, hb⟩; have HV4 := Lib.hid (HV3.out.below hb); clear hb HSA))
                      go_roundg (n2 - (r2 + 1))
                      case measure => omega
                      case rel => exact ⟨r2 + 1, _, _, _, us, by omega, by go_num, HV4.out.mono (by omega) (by omega), HO3.out⟩
                    · have fq : (x.g.kind == 3) = false := by simpa using hq
                      clear hq
                      go_upto_region 20 with (first
                        | (have hqq := HLI; clear hqq; refine wpList_load_row rfl 44 _ rfl bX rfl 44 (xca x) (0, 0) _ RX.out Tryz.underlying44 rfl (by rw [xca_size]; exact infoX) ?_)
                        | (go_at_call 12; refine HLI.out.mono ?_; rintro e W2 ⟨rfl, hb⟩; have RX2 := Lib.hid (RX.out.below hb); have HU2 := Lib.hid (HU1.out.below hb); have k0 : W2.cell? ⟨bX, 0, none⟩ = some (.int .i64 x.what) := (cell_of_row _ bX 0 _ _ _ RX2.out).trans rfl; have k1 : W2.cell? ⟨bX, 1, none⟩ = some (.int .i64 x.n) := (cell_of_row _ bX 1 _ _ _ RX2.out).trans rfl; have k2 : W2.cell? ⟨bX, 2, none⟩ = some (.int .i64 x.g.kind) := (cell_of_row _ bX 2 _ _ _ RX2.out).trans rfl; have k3 : W2.cell? ⟨bX, 3, none⟩ = some (.int .i64 x.g.txn) := (cell_of_row _ bX 3 _ _ _ RX2.out).trans rfl; clear hb HLI))
                      go_upto_region 21 with fail
                      clear k0 k1 k2 k3
                      have HG1 := Lib.hid (boxG RX2.out)
                      have HIG := Lib.hid (HIX.out.below HU2.out.env)
                      have HC := Lib.hid (st_take HU2.out.a x.g HWX.out.g.ms HIG.out (HU2.out.a.stM HIX.out.1) (by omega))
                      go_upto_region 23 with (first
                        | (refine wpList_load_mid rfl 42 _ rfl bX 2 rfl (gcl x.g) _ HG1.out Tryz.underlying42 rfl (by rw [gcl_len]; exact infoG) ?_)
                        | (go_at_call 19; refine HC.out.mono ?_; rintro e W3 ⟨xe, vp, gp, rfl, _, _, hst, hfr⟩; refine Hid.out ?_))
                      have HU3 := Lib.hid (HU2.out.onA hst hfr (by omega))
                      have RX3 := Lib.hid (hfr.fr.blk RX2.out (HU2.out.a.uni.muts.not RX2.out.typ (by decide)))
                      clear hst hfr HC HG1 HIG HU2 RX2
                      have k3 : W3.cell? ⟨bX, 3, none⟩ = some (.int .i64 x.g.txn) := (cell_of_row _ bX 3 _ _ _ RX3.out).trans rfl
                      have HO3 := Lib.hid (show OneT txn us (takeS sa x.g.u) by rw [one_other HO.out (m := x.g.u) htx hk1]; exact HO.out)
                      have HB3 := Lib.hid (one_other0 (us := us) (m := x.g.u) hk1)
                      have HG3 := Lib.hid (boxG RX3.out)
                      have HIG := Lib.hid (HIX.out.below HU3.out.env)
                      have HC := Lib.hid (st_take HU3.out.b x.g HWX.out.g.ms HIG.out (HU3.out.b.stM HIX.out.1) (by omega))
                      rw [HB3.out] at HC
                      refine Lib.hid ?_
                      go_upto_region 31 with (first
                        | (refine wpList_load_mid rfl 42 _ rfl bX 2 rfl (gcl x.g) _ HG3.out Tryz.underlying42 rfl (by rw [gcl_len]; exact infoG) ?_)
                        | (go_at_call 19; refine HC.out.mono ?_; rintro e W4 ⟨xf, vq, gq, rfl, _, _, hst, hfr⟩; refine Hid.out ?_))
                      have HU4 := Lib.hid (HU3.out.onB hst hfr (by omega))
                      clear hst hfr HC HG3 HIG HU3 RX3 k3
                      have HCA := Lib.hid (st_base HU4.out.a)
                      rw [(HO3.out).base] at HCA
                      refine Lib.hid ?_
                      go_wp2_with (first
                        | (go_at_call 15; refine HCA.out.mono ?_; rintro e u1 ⟨va, La, rfl, hua, hoa, hb⟩; have HUA := Lib.hid hua; have HOA := Lib.hid hoa; have HV2 := Lib.hid (HU4.out.below hb); have HCB := Lib.hid (st_base HV2.out.b); clear hua hoa hb HCA)
                        | (go_at_call 15; refine HCB.out.mono ?_; rintro e u2 ⟨vb, Lb, rfl, hub, hob, hb⟩; have HV3 := Lib.hid (HV2.out.below hb); have HSA := Lib.hid (same2 (f := HV2.out.b.fit) (e := HV2.out.b.un) HUA.out hub u2 (HOA.out.below hb).lies hob.lies); clear hub hob hb HCB)
                        | (go_at_call 14; refine HSA.out.mono ?_; rintro e u3 ⟨rfl, hb⟩; have HV4 := Lib.hid (HV3.out.below hb); clear hb HSA))
                      go_roundg (n2 - (r2 + 1))
                      case measure => omega
                      case rel => exact ⟨r2 + 1, _, _, _, us, by omega, by go_num, HV4.out.mono (by omega) (by omega), HO3.out⟩
              · have f0 : (x.what == 0) = false := by simpa using w0
                by_cases w1 : x.what = 1
                · have f1 : (x.what == 1) = true := by simpa using w1
                  go_upto_region 20 with (first
                    | (have hqq := HLI; clear hqq; refine wpList_load_row rfl 44 _ rfl bX rfl 44 (xca x) (0, 0) _ RX.out Tryz.underlying44 rfl (by rw [xca_size]; exact infoX) ?_)
                    | (go_at_call 12; refine HLI.out.mono ?_; rintro e W2 ⟨rfl, hb⟩; have RX2 := Lib.hid (RX.out.below hb); have HU2 := Lib.hid (HU1.out.below hb); have k0 : W2.cell? ⟨bX, 0, none⟩ = some (.int .i64 x.what) := (cell_of_row _ bX 0 _ _ _ RX2.out).trans rfl; have k1 : W2.cell? ⟨bX, 1, none⟩ = some (.int .i64 x.n) := (cell_of_row _ bX 1 _ _ _ RX2.out).trans rfl; have k2 : W2.cell? ⟨bX, 2, none⟩ = some (.int .i64 x.g.kind) := (cell_of_row _ bX 2 _ _ _ RX2.out).trans rfl; have k3 : W2.cell? ⟨bX, 3, none⟩ = some (.int .i64 x.g.txn) := (cell_of_row _ bX 3 _ _ _ RX2.out).trans rfl; clear hb HLI))
                  obtain ⟨vs2, hv1, hv2⟩ := one_pkt HO.out x.n x.h
                  have HV1 := Lib.hid hv1
                  have HV2a := Lib.hid hv2
                  clear hv1 hv2
                  have HH1 := Lib.hid (boxH RX2.out)
                  have HC := Lib.hid (st_packet HU2.out.a x.n x.h HWX.out.h)
                  go_upto_region 27 with (first
                    | (refine wpList_load_mid rfl 35 _ rfl bX 50 rfl (hl x.h) _ HH1.out Tryz.underlying35 rfl infoHead2 ?_)
                    | (go_at_call 20; refine HC.out.mono ?_; rintro e W3 ⟨xe, vp, vq, gp, rfl, _, _, _, hst, hfr⟩; refine Hid.out ?_))
                  have HU3 := Lib.hid (HU2.out.onA hst hfr (Nat.le_refl _))
                  have RX3 := Lib.hid (hfr.fr.blk RX2.out (HU2.out.a.uni.muts.not RX2.out.typ (by decide)))
                  clear hst hfr HC HH1 HU2 RX2 k0 k1 k2 k3
                  have k0 : W3.cell? ⟨bX, 0, none⟩ = some (.int .i64 x.what) := (cell_of_row _ bX 0 _ _ _ RX3.out).trans rfl
                  have k1 : W3.cell? ⟨bX, 1, none⟩ = some (.int .i64 x.n) := (cell_of_row _ bX 1 _ _ _ RX3.out).trans rfl
                  have k2 : W3.cell? ⟨bX, 2, none⟩ = some (.int .i64 x.g.kind) := (cell_of_row _ bX 2 _ _ _ RX3.out).trans rfl
                  have k3 : W3.cell? ⟨bX, 3, none⟩ = some (.int .i64 x.g.txn) := (cell_of_row _ bX 3 _ _ _ RX3.out).trans rfl
                  have HH3 := Lib.hid (boxH RX3.out)
                  have HC := Lib.hid (st_packet HU3.out.b x.n x.h HWX.out.h)
                  rw [HV2a.out] at HC
                  refine Lib.hid ?_
                  go_upto_region 31 with (first
                    | (refine wpList_load_mid rfl 35 _ rfl bX 50 rfl (hl x.h) _ HH3.out Tryz.underlying35 rfl infoHead2 ?_)
                    | (go_at_call 20; refine HC.out.mono ?_; rintro e W4 ⟨xf, vs, vt, gq, rfl, _, _, _, hst, hfr⟩; refine Hid.out ?_))
                  have HU4 := Lib.hid (HU3.out.onB hst hfr (Nat.le_refl _))
                  clear hst hfr HC HH3 HU3 RX3 k0 k1 k2 k3
                  have HCA := Lib.hid (st_base HU4.out.a)
                  rw [(HV1.out).base] at HCA
                  refine Lib.hid ?_
                  go_wp2_with (first
                    | (go_at_call 15; refine HCA.out.mono ?_; rintro e u1 ⟨va, La, rfl, hua, hoa, hb⟩; have HUA := Lib.hid hua; have HOA := Lib.hid hoa; have HV2 := Lib.hid (HU4.out.below hb); have HCB := Lib.hid (st_base HV2.out.b); clear hua hoa hb HCA)
                    | (go_at_call 15; refine HCB.out.mono ?_; rintro e u2 ⟨vb, Lb, rfl, hub, hob, hb⟩; have HV3 := Lib.hid (HV2.out.below hb); have HSA := Lib.hid (same2 (f := HV2.out.b.fit) (e := HV2.out.b.un) HUA.out hub u2 (HOA.out.below hb).lies hob.lies); clear hub hob hb HCB)
                    | (go_at_call 14; refine HSA.out.mono ?_; rintro e u3 ⟨rfl, hb⟩; have HV4 := Lib.hid (HV3.out.below hb); clear hb HSA))
                  go_roundg (n2 - (r2 + 1))
                  case measure => omega
                  case rel => exact ⟨r2 + 1, _, _, _, vs2, by omega, by go_num, HV4.out.mono (by omega) (by omega), HV1.out⟩
                · have f1 : (x.what == 1) = false := by simpa using w1
                  by_cases w2 : x.what = 2
                  · have f2 : (x.what == 2) = true := by simpa using w2
                    go_upto_region 20 with (first
                      | (have hqq := HLI; clear hqq; refine wpList_load_row rfl 44 _ rfl bX rfl 44 (xca x) (0, 0) _ RX.out Tryz.underlying44 rfl (by rw [xca_size]; exact infoX) ?_)
                      | (go_at_call 12; refine HLI.out.mono ?_; rintro e W2 ⟨rfl, hb⟩; have RX2 := Lib.hid (RX.out.below hb); have HU2 := Lib.hid (HU1.out.below hb); have k0 : W2.cell? ⟨bX, 0, none⟩ = some (.int .i64 x.what) := (cell_of_row _ bX 0 _ _ _ RX2.out).trans rfl; have k1 : W2.cell? ⟨bX, 1, none⟩ = some (.int .i64 x.n) := (cell_of_row _ bX 1 _ _ _ RX2.out).trans rfl; have k2 : W2.cell? ⟨bX, 2, none⟩ = some (.int .i64 x.g.kind) := (cell_of_row _ bX 2 _ _ _ RX2.out).trans rfl; have k3 : W2.cell? ⟨bX, 3, none⟩ = some (.int .i64 x.g.txn) := (cell_of_row _ bX 3 _ _ _ RX2.out).trans rfl; clear hb HLI))
                    obtain ⟨hv1, hv2, hv3⟩ := one_tick HO.out x.n
                    have HV1 := Lib.hid hv1
                    have HV2a := Lib.hid hv2
                    have HV3a := Lib.hid hv3
                    clear hv1 hv2 hv3
                    have HC := Lib.hid (st_tick HU2.out.a x.n)
                    go_upto_region 30 with (first
                      | (go_at_call 21; refine HC.out.mono ?_; rintro e W3 ⟨xe, vp, gp, rfl, hgp, hap, hst, hfr⟩; obtain ⟨pp, cp, ep⟩ := hap.1.form; subst ep))
                    have HU3 := Lib.hid (HU2.out.onA hst hfr (Nat.le_refl _))
                    have RX3 := Lib.hid (hfr.fr.blk RX2.out (HU2.out.a.uni.muts.not RX2.out.typ (by decide)))
                    have HGP := Lib.hid hgp
                    clear hst hfr HC HU2 RX2 k0 k1 k2 k3 hap hgp
                    have k0 : W3.cell? ⟨bX, 0, none⟩ = some (.int .i64 x.what) := (cell_of_row _ bX 0 _ _ _ RX3.out).trans rfl
                    have k1 : W3.cell? ⟨bX, 1, none⟩ = some (.int .i64 x.n) := (cell_of_row _ bX 1 _ _ _ RX3.out).trans rfl
                    have k2 : W3.cell? ⟨bX, 2, none⟩ = some (.int .i64 x.g.kind) := (cell_of_row _ bX 2 _ _ _ RX3.out).trans rfl
                    have k3 : W3.cell? ⟨bX, 3, none⟩ = some (.int .i64 x.g.txn) := (cell_of_row _ bX 3 _ _ _ RX3.out).trans rfl
                    have HC := Lib.hid (st_tick HU3.out.b x.n)
                    rw [HV2a.out] at HC
                    go_upto_region 31 with (first
                      | (go_at_call 21; refine HC.out.mono ?_; rintro e W4 ⟨xf, vq, gq, rfl, hgq, haq, hst, hfr⟩; obtain ⟨pq, cq, eq⟩ := haq.1.form; subst eq))
                    have HU4 := Lib.hid (HU3.out.onB hst hfr (Nat.le_refl _))
                    have hlen : gq.length = gp.length := by
                      have h1 := congrArg List.length hgq
                      have h2 := congrArg List.length HGP.out
                      rw [List.length_map] at h1 h2
                      rw [h1, h2, HV3a.out]
                    rw [hlen]
                    clear hst hfr HC HU3 RX3 k0 k1 k2 k3 hgq haq hlen HGP
                    have HCA := Lib.hid (st_base HU4.out.a)
                    rw [(HV1.out).base] at HCA
                    go_wp2_with (first
                      | (go_at_call 15; refine HCA.out.mono ?_; rintro e u1 ⟨va, La, rfl, hua, hoa, hb⟩; have HUA := Lib.hid hua; have HOA := Lib.hid hoa; have HV2 := Lib.hid (HU4.out.below hb); have HCB := Lib.hid (st_base HV2.out.b); clear hua hoa hb HCA)
                      | (go_at_call 15; refine HCB.out.mono ?_; rintro e u2 ⟨vb, Lb, rfl, hub, hob, hb⟩; have HV3 := Lib.hid (HV2.out.below hb); have HSA := Lib.hid (same2 (f := HV2.out.b.fit) (e := HV2.out.b.un) HUA.out hub u2 (HOA.out.below hb).lies hob.lies); clear hub hob hb HCB)
                      | (go_at_call 14; refine HSA.out.mono ?_; rintro e u3 ⟨rfl, hb⟩; have HV4 := Lib.hid (HV3.out.below hb); clear hb HSA))
                    go_roundg (n2 - (r2 + 1))
                    case measure => omega
                    case rel => exact ⟨r2 + 1, _, _, _, _, by omega, by go_num, HV4.out.mono (by omega) (by omega), HV1.out⟩
                  · have f2 : (x.what == 2) = false := by simpa using w2
                    go_upto_region 20 with (first
                      | (have hqq := HLI; clear hqq; refine wpList_load_row rfl 44 _ rfl bX rfl 44 (xca x) (0, 0) _ RX.out Tryz.underlying44 rfl (by rw [xca_size]; exact infoX) ?_)
                      | (go_at_call 12; refine HLI.out.mono ?_; rintro e W2 ⟨rfl, hb⟩; have RX2 := Lib.hid (RX.out.below hb); have HU2 := Lib.hid (HU1.out.below hb); have k0 : W2.cell? ⟨bX, 0, none⟩ = some (.int .i64 x.what) := (cell_of_row _ bX 0 _ _ _ RX2.out).trans rfl; have k1 : W2.cell? ⟨bX, 1, none⟩ = some (.int .i64 x.n) := (cell_of_row _ bX 1 _ _ _ RX2.out).trans rfl; have k2 : W2.cell? ⟨bX, 2, none⟩ = some (.int .i64 x.g.kind) := (cell_of_row _ bX 2 _ _ _ RX2.out).trans rfl; have k3 : W2.cell? ⟨bX, 3, none⟩ = some (.int .i64 x.g.txn) := (cell_of_row _ bX 3 _ _ _ RX2.out).trans rfl; clear hb HLI))
                    go_upto_region 31 with fail
                    have HCA := Lib.hid (st_base HU2.out.a)
                    rw [(HO.out).base] at HCA
                    go_wp2_with (first
                      | (go_at_call 15; refine HCA.out.mono ?_; rintro e u1 ⟨va, La, rfl, hua, hoa, hb⟩; have HUA := Lib.hid hua; have HOA := Lib.hid hoa; have HV2 := Lib.hid (HU2.out.below hb); have HCB := Lib.hid (st_base HV2.out.b); clear hua hoa hb HCA)
                      | (go_at_call 15; refine HCB.out.mono ?_; rintro e u2 ⟨vb, Lb, rfl, hub, hob, hb⟩; have HV3 := Lib.hid (HV2.out.below hb); have HSA := Lib.hid (same2 (f := HV2.out.b.fit) (e := HV2.out.b.un) HUA.out hub u2 (HOA.out.below hb).lies hob.lies); clear hub hob hb HCB)
                      | (go_at_call 14; refine HSA.out.mono ?_; rintro e u3 ⟨rfl, hb⟩; have HV4 := Lib.hid (HV3.out.below hb); clear hb HSA))
                    go_roundg (n2 - (r2 + 1))
                    case measure => omega
                    case rel => exact ⟨r2 + 1, _, _, _, us, by omega, by go_num, HV4.out.mono (by omega) (by omega), HO.out⟩
        · have hltI : ¬ (r2 : Int) < (n2 : Int) := by omega
          have HC := Lib.hid (st_end HU.out.a 4 txn (by omega))
          go_upto_region 34 with (first
            | (refine wpBuilt2 rfl _ _ rfl _ _ (builtEnd 4 txn) rfl rfl ?_)
            | (go_at_call 19; refine HC.out.mono ?_; rintro e W2 ⟨xc1, va, ga, rfl, _, _, hst, hfr⟩; refine Hid.out ?_))
          have HU1 := Lib.hid (HU.out.onA hst hfr (by omega))
          clear hst hfr HC HU
          have hbase : (takeS sa (endM 4 txn)).base = us := by
            by_cases hok : okT txn
            · rw [one_und hok HO.out]
            · rw [one_und_no hok]; exact HO.out.base
          have HBS := Lib.hid hbase
          have HV := Lib.hid (show okT txn → takeS sa (endM 4 txn) = ⟨32, us, [], false⟩ from fun hok => one_und hok HO.out)
          clear hbase
          have HCA := Lib.hid (st_base HU1.out.a)
          rw [HBS.out] at HCA
          refine Lib.hid ?_
          by_cases hok : okT txn
          · have t1 : ¬ (txn < 0) := by unfold okT at hok; omega
            have t2 : ¬ ((4294967295 : Int) < txn) := by unfold okT at hok; omega
            rw [HV.out hok] at HU1
            clear HV hok
            go_wp2_with (first
              | (go_at_call 15; refine HCA.out.mono ?_; rintro e u1 ⟨va, La, rfl, hua, hoa, hb⟩; have HUA := Lib.hid hua; have HOA := Lib.hid hoa; have HU2 := Lib.hid (HU1.out.below hb); have HCB := Lib.hid (st_base HU2.out.b); clear hua hoa hb HCA)
              | (go_at_call 15; refine HCB.out.mono ?_; rintro e u2 ⟨vb, Lb, rfl, hub, hob, hb⟩; have HU3 := Lib.hid (HU2.out.below hb); have HSA := Lib.hid (same2 (f := HU2.out.b.fit) (e := HU2.out.b.un) HUA.out hub u2 (HOA.out.below hb).lies hob.lies); clear hub hob hb HCB)
              | (go_at_call 14; refine HSA.out.mono ?_; rintro e u3 ⟨rfl, hb⟩; have HU4 := Lib.hid (HU3.out.below hb); have HCV := Lib.hid (st_view HU4.out.a); clear hb HSA)
              | (go_at_call 16; refine HCV.out.mono ?_; rintro e u4 ⟨vc, Lc, rfl, huc, hoc, hb⟩; have HUC := Lib.hid huc; have HOC := Lib.hid hoc; have HU5 := Lib.hid (HU4.out.below hb); have HCW := Lib.hid (st_view HU5.out.b); clear huc hoc hb HCV)
              | (go_at_call 16; refine HCW.out.mono ?_; rintro e u5 ⟨vd, Ld, rfl, hud, hod, hb⟩; have HU6 := Lib.hid (HU5.out.below hb); have HSB := Lib.hid (same2 (f := HU5.out.b.fit) (e := HU5.out.b.un) HUC.out hud u5 (HOC.out.below hb).lies hod.lies); clear hud hod hb HCW)
              | (go_at_call 14; refine HSB.out.mono ?_; rintro e u6 ⟨rfl, hb⟩; have HE := Lib.hid (HU6.out.below hb).env; clear hb HSB))
            go_ret
            exact ⟨rfl, HE.out⟩
          · by_cases t1 : txn < 0
            · go_wp2_with (first
                | (go_at_call 15; refine HCA.out.mono ?_; rintro e u1 ⟨va, La, rfl, hua, hoa, hb⟩; have HUA := Lib.hid hua; have HOA := Lib.hid hoa; have HU2 := Lib.hid (HU1.out.below hb); have HCB := Lib.hid (st_base HU2.out.b); clear hua hoa hb HCA)
                | (go_at_call 15; refine HCB.out.mono ?_; rintro e u2 ⟨vb, Lb, rfl, hub, hob, hb⟩; have HU3 := Lib.hid (HU2.out.below hb); have HSA := Lib.hid (same2 (f := HU2.out.b.fit) (e := HU2.out.b.un) HUA.out hub u2 (HOA.out.below hb).lies hob.lies); clear hub hob hb HCB)
                | (go_at_call 14; refine HSA.out.mono ?_; rintro e u3 ⟨rfl, hb⟩; have HE := Lib.hid (HU3.out.below hb).env; clear hb HSA))
              go_ret
              exact ⟨rfl, HE.out⟩
            · have t2 : (4294967295 : Int) < txn := by unfold okT at hok; omega
              go_wp2_with (first
                | (go_at_call 15; refine HCA.out.mono ?_; rintro e u1 ⟨va, La, rfl, hua, hoa, hb⟩; have HUA := Lib.hid hua; have HOA := Lib.hid hoa; have HU2 := Lib.hid (HU1.out.below hb); have HCB := Lib.hid (st_base HU2.out.b); clear hua hoa hb HCA)
                | (go_at_call 15; refine HCB.out.mono ?_; rintro e u2 ⟨vb, Lb, rfl, hub, hob, hb⟩; have HU3 := Lib.hid (HU2.out.below hb); have HSA := Lib.hid (same2 (f := HU2.out.b.fit) (e := HU2.out.b.un) HUA.out hub u2 (HOA.out.below hb).lies hob.lies); clear hub hob hb HCB)
                | (go_at_call 14; refine HSA.out.mono ?_; rintro e u3 ⟨rfl, hb⟩; have HE := Lib.hid (HU3.out.below hb).env; clear hb HSA))
              go_ret
              exact ⟨rfl, HE.out⟩
end Go.Proofs.YtomnpfbebimpkaaGreatDoor
namespace Go.Proofs.YtomnpfbebimpkaaGreatDoor
open Go.ChangeShapes Go.WideShapes Go.ChangeAt Go.RowKit

set_option maxRecDepth 100000 in
theorem unitUndone_lifted (os : Os) (started : os.Started) (H : Type) (enc : TypeId × Value → H) :
    ReturnsInHanded {} Tryz.checked os 4 .any (fun w args => (Rows.unitUndoneSpec.pre enc Tryz.prog Tryz.f4 [] false w args ∧ laidMetH Tryz.prog laid1 w) ∧ sizedMet enc Tryz.prog Tryz.f4 (OpenSpec.ofChange Rows.unitUndoneSpec) false w args)
      (Rows.unitUndoneSpec.post enc Tryz.prog Tryz.f4 false true false false) := by
  refine returnsInHanded_of_change_and (C := Tryz.checked) (X := fun w _ => laidMetH Tryz.prog laid1 w) (fun _ _ _ hh h => h.of_heap hh) own started (by kernel_rfl) Tryz.func4
    (ChangeSpec.witness_shaped (enc := enc) (C := Tryz.checked) (os := os) (X := fun w _ => laidMetH Tryz.prog laid1 w) false (World.doorLaid Tryz.prog 400 os) #[.slice none 0 0, .slice none 0 0, .int .i64 0] 8 rfl (World.shaped_of_RefB (by kernel_rfl) (by kernel_rfl)) (by kernel_rfl) (by kernel_rfl) (by kernel_rfl) (door_met os _)) ?_
  intro W base args ds gs before hval0 hW _ hsz0 hL _
  have hval : ∀ (j : Nat) t v, Tryz.f4.params[j]? = some t → args[j]? = some v → Value.okWide Tryz.prog W .any base t v := hval0
  have hW' := hW
  obtain ⟨p, q, hA0, hV, rfl, hfz, hnd⟩ := hW'
  have hA : DataW.TrodAll enc Tryz.prog W 0 (fun _ => true) true Tryz.f4.params.toList args.toList ds p := hA0
  rw [Tryz.params4] at hA hval
  have hsz : (DataW.weightsEach Tryz.prog (Tryz.f4.params.toList ++ Rows.unitUndoneSpec.plain.varTypes Tryz.prog) (ds ++ gs)).all (· ≤ reachBytes) = true := hsz0
  rw [Tryz.params4] at hsz
  clear hsz0
  obtain ⟨v0, vs0, d0, ds0, p0, q0, hargs, rfl, rfl, h0, r0⟩ := trodAll_cons hA
  obtain ⟨v1, vs1, d1, ds1, p1, q1, rfl, rfl, rfl, h1, r1⟩ := trodAll_cons r0
  obtain ⟨v2, vs2, d2, ds2, p2, q2, rfl, rfl, rfl, h2, r2⟩ := trodAll_cons r1
  obtain ⟨rfl, rfl, rfl⟩ := trodAll_nil r2
  obtain rfl : args = #[v0, v1, v2] := by cases args; simp_all
  obtain ⟨rfl, rfl⟩ := trodVars_none hV
  obtain ⟨l0, hl0, hw0, hb0⟩ := open_mods (light_of hsz (j := 0) rfl rfl) (hval 0 50 v0 rfl rfl) h0
  obtain ⟨l1, hl1, hw1, hb1⟩ := open_xacts (light_of hsz (j := 1) rfl rfl) (hval 1 22 v1 rfl rfl) h1
  obtain ⟨a2, rfl, rfl, rfl, w2⟩ := open_int Tryz.underlying3 (hval 2 3 v2 rfl rfl) h2
  clear hA0 hval0
  have hW' := hW
  simp only [List.append_nil] at hW'
  have hlt := hW'.lt
  have ht := tab_of_laid hL
  refine (unitUndone_any v0 l0 hw0 hb0 v1 l1 hw1 hb1 a2 (i64_of w2) W hl0 hl1 ht ht.size).mono fun e W' ⟨he, hg⟩ => ?_
  subst he
  exact ⟨_, rfl, post_oldK hW' hg (fun _ _ _ => (trodAll_cons_mk (shut_bool Tryz.underlying4 _) trodAll_mk0)) (trodAll_cons_mk (Below.trod laidOutK readMods rowMods h0 hg (fun x hx => hlt x (by simp [hx]))) (trodAll_cons_mk (Below.trod laidOutK readXacts rowXacts h1 hg (fun x hx => hlt x (by simp [hx]))) (trodAll_cons_mk (shut_int Tryz.underlying3 w2) trodAll_mk0))) (fun _ => rfl)⟩

theorem unitUndone_over : Rows.UnitUndoneSaid :=
  OpenClaim.holds_of_wide 4 Tryz.f4 rfl rfl rfl rfl rfl rfl rfl ⟨rfl, rfl, rfl, rfl, rfl⟩ rfl rfl rfl rfl rfl (by kernel_rfl) Tryz.func4 (by kernel_rfl)
    (of_decide_eq_true (by kernel_rfl)) (by unfold Func.isWrapper; first | (rw [if_pos (by decide +kernel)]; kernel_rfl) | (rw [if_neg (by decide +kernel)]; exact ⟨rfl, rfl⟩))
    (fun os started H enc _ => unitUndone_lifted os started H enc)

theorem unitUndone_proved : Rows.UnitUndoneCardSaid :=
  Claim7.holds_tied_plain_at .later [] [.data] true Rows.unitUndoneCard.stood.harness false
    unitUndone_over (fun _ h => by cases h) (by kernel_rfl) (fun _ h => by cases h) unitUndone_row_tie rfl ⟨rfl, rfl⟩ (by kernel_rfl) rfl
    (fun f fn hf hfn => by
      obtain rfl : f = 4 := Option.some.inj ((show Tryz.prog.funcNamed Rows.unitUndoneRow.func = some 4 by kernel_rfl).symm.trans hf) |>.symm
      obtain rfl : fn = Tryz.f4 := (Option.some.inj (Tryz.func4.symm.trans hfn)).symm
      exact ⟨by kernel_rfl, fun j t ht => by
        rw [Tryz.params4] at ht
        have hm : t ∈ [50, 22, 3] := by simpa using Array.mem_of_getElem? ht
        have hall : ([50, 22, 3].all fun u => !Tryz.prog.wantsStandIn u) = true := by kernel_rfl
        exact (show Tryz.prog.wantsStandIn t = false by simpa using List.all_eq_true.1 hall t hm)⟩)
    (by kernel_rfl)
end Go.Proofs.YtomnpfbebimpkaaGreatDoor
