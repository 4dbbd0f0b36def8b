/-
  The walk of the law LapseKeeps.
-/
import Derived.Test.YtkeejifchhakhaaLapLaw
import Derived.Test.YtkeejifchhakhaaLapKeepM
namespace Go.Proofs.Ytkeejifchhakhaa
open Go.RowKit

set_option maxRecDepth 100000 in
set_option maxHeartbeats 4000000 in
theorem lapseKeeps_any (v : Value) (l : List Rm) (hw : WfRL l) (hlen : l.length ≤ 140737488355328) (n : Int) (_ : I64 n) (w0 : World) (hl : RLies v l w0) :
    Calls Try.prog 7 #[v, .int .i64 n] w0 fun e w' => e = .returned (.bool true) ∧ Below w0.heap.size w0 w' := by
  obtain ⟨p, cap, rfl⟩ := hl.1.form
  have HA := Lib.hid lanswers
  have HL := Lib.hid hl
  clear hl
  by_cases hn : 40 < l.length
  · have hnI : (40 : Int) < (l.length : Int) := by omega
    go_enter Try.func7, Try.ntmps7
    go_wp2_with (go_at_call 8; refine (HA.out _).mono ?_; rintro e w1 ⟨rfl, hw1⟩)
    go_ret
    exact ⟨rfl, hw1⟩
  · have hnI : ¬ (40 : Int) < (l.length : Int) := by omega
    have hl40 : l.length ≤ 40 := by omega
    have HW := Lib.hid hw
    clear hw hlen hn
    go_enter Try.func7, Try.ntmps7
    go_wp2_with fail
    go_loopg [5, 6] l.length (fun k vin i wr => ∃ (r : Nat) (In : List Rm), r + k = l.length ∧ i = .int .i64 r ∧ In.map (·.u) = (l.take r).map (·.u) ∧ InS w0 vin In wr)
    case atStart => exact ⟨0, [], by omega, rfl, rfl, KOwns.nil _ _, fun y hy => (by cases hy), Below.refl _ _⟩
    case round =>
      obtain ⟨r, In, hr, rfl, hu, hs⟩ := hrel
      have HU := Lib.hid hu
      have HS := Lib.hid hs
      have hIl : In.length = r := by have := congrArg List.length hu; rw [List.length_map, List.length_map, List.length_take] at this; omega
      clear hu hs
      by_cases hlt : r < l.length
      · have hltI : (r : Int) < (l.length : Int) := by omega
        obtain ⟨x, hx⟩ := lt_some hlt
        have HL1 := Lib.hid (HL.out.below HS.out.2.2)
        obtain ⟨b, o, rfl, hrg⟩ := HL1.out.1.at hx
        have HR := Lib.hid hrg
        have HX := Lib.hid hx
        have HAx := Lib.hid ((HL1.out.acts hx).below (below1 wr (.cells (rca x) 37)))
        have HWx := Lib.hid (HW.out.at hx)
        clear hrg hx HL1
        go_upto_region 8 with (first
          | (refine wpList_load_mid rfl 37 _ rfl b (o + r * 32) rfl (rcl x) _ HR.out Try.underlying37 rfl infoR ?_)
          | (refine wpList_store_row rfl 37 _ _ rfl wr.heap.size (rca x) rfl rfl 37 _ (heap_alloc_new _ _) (by kernel_rfl) rfl (rca_one _) ?_; rw [World.setRow_alloc_new]))
        have RX := Lib.hid (Blk.new wr (rca x) 37)
        have HB1 := Lib.hid (below1 wr (.cells (rca x) 37))
        have hlt1 : wr.heap.size < (wr.alloc (.cells (rca x) 37)).heap.size := RX.out.lt
        have HLT1 := Lib.hid hlt1
        clear HR hlt1
        generalize wr.alloc (.cells (rca x) 37) = W at *
        have RX2 := Lib.hid (RX.out.old (.cells #[] KA.T))
        have HAx2 := Lib.hid (HAx.out.below (below1 W (.cells #[] KA.T)))
        have k25 := RX2.out.cellsR.2.2.1
        go_wp2_with (first
          | (refine kbuildNone KA okA rfl rfl ?_)
          | (refine kappendB KA okA rfl (.tmp 28) (.tmp 30) rfl W.heap.size _ [] x.u.acts rfl (KOwns.built W _ (Nat.le_refl _)) _ rfl HAx2.out (by simp) (by simpa using HWx.out.room) (fun v3 w3 ho hg => ?_); refine Hid.out ?_))
        have hb3 := kbelowOwn (below1 W (.cells #[] KA.T)) (KOwns.built (K := KA) W W.heap.size (Nat.le_refl _)) (Nat.le_refl _) hg
        have ho' : KOwns KA W.heap.size v3 x.u.acts w3 := ho
        obtain ⟨q, c, rfl⟩ := ho'.form
        have RX3 := Lib.hid (RX.out.below hb3)
        have HO := Lib.hid ho'
        have HB3 := Lib.hid (HB1.out.trans (hb3.mono HB1.out.size))
        clear ho ho' hg hb3 RX RX2 HAx HAx2 k25 HB1
        refine Lib.hid ?_
        go_wp2_with (refine storeCell rfl 35 _ _ rfl wr.heap.size 25 (.slice q x.u.acts.length c) rfl rfl rfl (RX3.out.there (by rw [rca_size]; decide)) infoActs ?_; refine Hid.out ?_)
        have R4' := RX3.out.one (k := 25) (.slice q x.u.acts.length c)
        rw [rca_acts] at R4'
        have R4 := Lib.hid R4'
        have hws : w0.heap.size ≤ W.heap.size := by have := HS.out.2.2.size; have := HLT1.out; omega
        have HO4 := Lib.hid (show OwnA w0.heap.size ⟨x.u, q, x.u.acts.length, c⟩ (w3.setCell ⟨wr.heap.size, 25, none⟩ (.slice q x.u.acts.length c)) from KOwns.mono (KOwns.other HO.out fun g hg _ => heap_setCell_other _ _ _ _ (by have := HLT1.out; show g ≠ wr.heap.size; omega)) hws)
        have HS4 := Lib.hid (InS.below (HB3.out.setCell (Nat.le_refl _) (.slice q x.u.acts.length c) (p := ⟨wr.heap.size, 25, none⟩)) HS.out)
        clear R4' RX3 HO HB3 HS HLT1 hws
        generalize w3.setCell ⟨wr.heap.size, 25, none⟩ (.slice q x.u.acts.length c) = W4 at *
        obtain ⟨y, hy⟩ : ∃ y : Rm, y = ⟨x.u, q, x.u.acts.length, c⟩ := ⟨_, rfl⟩
        rw [← hy] at R4 HO4
        have HYU := Lib.hid (show y.u = x.u by rw [hy])
        clear hy
        have HS5 := Lib.hid (InS.below (below1 W4 (.cells (rca y) KR.T)) HS4.out)
        have HO5 := Lib.hid (HO4.out.below (below1 W4 (.cells (rca y) KR.T)))
        have HK5 := Lib.hid (Blk.klies (l := [y]) (Blk.new W4 (rca y) KR.T) okR (by simp [Kd.flat, rca]))
        refine Lib.hid ?_
        go_wp2_with (first
          | (refine wpList_load_row rfl 37 _ rfl wr.heap.size rfl 37 (rca y) (0, 0) _ R4.out Try.underlying37 rfl infoR ?_)
          | (refine kbuildOne KR okR #[Value.int IntKind.u64 0, Value.int IntKind.u64 0, Value.int IntKind.u64 0, Value.int IntKind.u64 0, Value.int IntKind.u64 0, Value.int IntKind.u64 0, Value.int IntKind.u64 0, Value.int IntKind.u64 0, Value.int IntKind.u64 0, Value.int IntKind.u64 0, Value.int IntKind.u64 0, Value.int IntKind.u64 0, Value.int IntKind.u64 0, Value.int IntKind.u64 0, Value.int IntKind.u64 0, Value.int IntKind.u64 0, Value.int IntKind.u64 0, Value.int IntKind.u64 0, Value.int IntKind.u64 0, Value.int IntKind.u64 0, Value.int IntKind.u64 0, Value.int IntKind.u64 0, Value.int IntKind.u64 0, Value.int IntKind.u64 0, Value.int IntKind.i64 0, Value.slice none 0 0, Value.int IntKind.i64 0, Value.int IntKind.i64 0, Value.int IntKind.i64 0, Value.int IntKind.i64 0, Value.int IntKind.i64 0, Value.int IntKind.i64 0] zeroR rfl (.tmp 34) rfl (rca y) rfl (by decide) (fillOne y) ?_)
          | (refine kappend KR okR rfl (.tmp 33) (.tmp 35) rfl w0.heap.size u5 In [y] rfl HS5.out.1 _ rfl HK5.out HS5.out.2.2.size (by simp; omega) (fun v6 w6 ho hg => ?_); refine Hid.out ?_))
        have HS6 := Lib.hid (HS5.out.push HO5.out ho hg)
        clear ho hg HS5 HO5 HK5 HS4 HO4 R4
        refine Lib.hid ?_
        go_wp2_with fail
        go_roundg (l.length - (r + 1))
        case measure => omega
        case rel =>
          refine ⟨r + 1, In ++ [y], by omega, by go_num, ?_, HS6.out⟩
          rw [take_map_succ HX.out, List.map_append, HU.out, ← HYU.out]
          rfl
      · have hltI : ¬ (r : Int) < (l.length : Int) := by omega
        obtain rfl : r = l.length := by omega
        have HIU := Lib.hid (show In.map (·.u) = l.map (·.u) by have := HU.out; rwa [List.take_length] at this)
        generalize wr = WB at *
        have HIN := Lib.hid HS.out.lies
        have BB := Lib.hid HS.out.2.2
        have HLB := Lib.hid (HL.out.below BB.out)
        obtain ⟨pi, ci, rfl⟩ := HS.out.1.form
        have HWI := Lib.hid (WfUL.rl (WfUL.of HW.out) HIU.out)
        have hIl40 : In.length ≤ 40 := by omega
        clear HS HL HU hIl
        obtain ⟨nl, hnl⟩ : ∃ nl, nl = l.length := ⟨_, rfl⟩
        have HNL := Lib.hid hnl
        have HIN2 := Lib.hid (show In.length = nl by rw [hnl]; have := congrArg List.length HIU.out; rwa [List.length_map, List.length_map] at this)
        have hnl40 : nl ≤ 40 := by omega
        rw [← hnl]
        clear hnl hl40 hr hltI hnI
        have C1 := Lib.hid (tick_any (.slice pi In.length ci) In (by omega) HWI.out 3 WB HIN.out)
        go_upto_region 11 with (go_at_call 9; refine C1.out.mono ?_; rintro e w1 ⟨va, vb, A, B, rfl, ha, hb, hs⟩; refine Hid.out ?_)
        have HAN := Lib.hid (show A.length + B.length = nl by have := tk_len ha hb; rw [List.length_map] at this; have := HIN2.out; omega)
        have TS := Lib.hid hs
        have C2 := Lib.hid (hit_any (.slice pi In.length ci) In (by omega) HWI.out n w1 (HIN.out.below hs.kept))
        clear ha hb hs C1
        refine Lib.hid ?_
        go_upto_region 12 with (go_at_call 13; refine C2.out.mono ?_; rintro e w2 ⟨g, L, rfl, hu, hc⟩; refine Hid.out ?_)
        have HLN := Lib.hid (show L.length = nl by have := congrArg List.length hu; rw [hitL_len, List.length_map, List.length_map] at this; have := HIN2.out; omega)
        have hb12 : Below w1.heap.size w1 w2 := hc.2.2.1
        have TS2 := Lib.hid (TkS.below (stab_own _) hb12 TS.out)
        have hgl : w1.heap.size ≤ g := hc.2.2.2
        have HGA := Lib.hid (show ∀ k, va.ownBlock = some k → k ≠ g from fun k hk => by have := TS.out.a.blk_lt hk; omega)
        have HKL := Lib.hid hc.1
        have HOL := Lib.hid (show ∀ y ∈ L, OwnA WB.heap.size y w2 from fun y hy => (hc.2.1 y hy).mono (by have := TS.out.kept.size; omega))
        clear hu hc C2 TS hb12 hgl
        have hA40 : A.length + B.length ≤ 1000000 := by have := HAN.out; omega
        have hL40 : A.length + B.length + L.length ≤ 1000000 := by have := HAN.out; have := HLN.out; omega
        refine Lib.hid ?_
        go_upto_region 13 with (refine kappend KR okR rfl (.tmp 45) (.tmp 46) rfl WB.heap.size va A B rfl TS2.out.a vb rfl (TS2.out.b.lies okR) TS2.out.kept.size hA40 (fun v3 w3 ho hg => ?_); refine Hid.out ?_)
        have B3 := Lib.hid (kbelowOwn TS2.out.kept TS2.out.a (Nat.le_refl _) hg)
        have HKL3 := Lib.hid (HKL.out.same (hg.block g HKL.out.lt fun e => HGA.out g e.symm rfl))
        have HO3 := Lib.hid ho
        have HOL3 := Lib.hid (show ∀ y ∈ A ++ B ++ L, OwnA WB.heap.size y w3 from fun y hy => by
          rcases List.mem_append.1 hy with hy | hy
          · rcases List.mem_append.1 hy with hy | hy
            · exact KOwns.apart (TS2.out.pa y hy) TS2.out.a hg
            · exact KOwns.apart (TS2.out.pb y hy) TS2.out.a hg
          · exact KOwns.apart (HOL.out y hy) TS2.out.a hg)
        have hAB : (A ++ B).length + L.length ≤ 1000000 := by rw [List.length_append]; exact hL40
        clear ho hg TS2 HKL HOL HGA
        refine Lib.hid ?_
        go_upto_region 13 with (refine kappend KR okR rfl (.tmp 47) (.tmp 48) rfl WB.heap.size v3 (A ++ B) L rfl HO3.out _ rfl (HKL3.out.lies _ rfl _ (Nat.le_refl _)) B3.out.size hAB (fun v4 w4 ho hg => ?_); refine Hid.out ?_)
        have B4 := Lib.hid (kbelowOwn B3.out HO3.out (Nat.le_refl _) hg)
        obtain ⟨C, hC⟩ : ∃ C, C = A ++ B ++ L := ⟨_, rfl⟩
        rw [← hC] at ho HOL3
        have HCN := Lib.hid (show C.length = 2 * nl by rw [hC, List.length_append, List.length_append]; have := HAN.out; have := HLN.out; omega)
        have hC80 : C.length ≤ 80 := by have := HCN.out; omega
        have HSK := Lib.hid (ShK.start ho fun y hy => KOwns.apart (HOL3.out y hy) HO3.out hg)
        obtain ⟨pq, cq, rfl⟩ := ho.form
        clear ho hg hC HO3 HKL3 HOL3 B3 hAB hL40 hA40
        have HS2 := Lib.hid (And.intro HSK.out B4.out)
        clear HSK B4
        refine Lib.hid ?_
        go_wp2_with fail
        go_loopg [12] C.length (fun k i wr => ∃ r : Nat, r + k = C.length ∧ i = .int .i64 r ∧ ShK WB.heap.size (.slice pq C.length cq) C wr ∧ Below WB.heap.size WB wr)
        case atStart => exact ⟨0, by omega, rfl, HS2.out⟩
        case round =>
          clear HS2
          obtain ⟨r, hr, rfl, hs⟩ := hrel
          have HS := Lib.hid hs
          clear hs
          by_cases hlt : r < C.length
          · have hltI : (r : Int) < (C.length : Int) := by omega
            have hdI : decide ((r : Int) < (C.length : Int)) = true := decide_eq_true hltI
            obtain ⟨x, hx⟩ := lt_some hlt
            have HX := Lib.hid hx
            have hxm : x.n ≤ 9223372036854775807 := by have h := HS.out.1.xn hx; unfold maxLen at h; omega
            clear hx
            go_wp2_with fail
            generalize wr = WZ at *
            go_loopg [13] x.n (fun k j wr => ∃ q : Nat, q + k = x.n ∧ j = .int .i64 q ∧ ShK WB.heap.size (.slice pq C.length cq) C wr ∧ Below WB.heap.size WB wr)
            case atStart => exact ⟨0, by omega, rfl, HS.out⟩
            case round =>
              clear HS
              obtain ⟨q, hq, rfl, hs⟩ := hrel
              have HS := Lib.hid hs
              clear hs
              obtain ⟨gq, rfl, k25⟩ := HS.out.1.look HX.out
              by_cases hqn : q < x.n
              · have hqI : (q : Int) < (x.n : Int) := by omega
                obtain ⟨ga, pa, cur, eq, hga, hcur, hcell, hth⟩ := HS.out.1.act HX.out hqn
                rw [eq] at k25
                have HTH := Lib.hid hth
                have HS3 := Lib.hid (And.intro (HS.out.1.port (j := q) hcur (wrap64 (pa + 1))) (HS.out.2.setCell hga (.int .i64 (wrap64 (pa + 1))) (p := ⟨ga, q * 4 + 1, none⟩)))
                clear hth hcur eq hga HS
                go_wp2_with (refine storeCell rfl 3 _ _ rfl ga (q * 4 + 1) (.int .i64 (wrap64 (pa + 1))) rfl rfl rfl HTH.out infoInt ?_; refine Hid.out ?_)
                clear HTH hcell k25
                generalize wr.setCell ⟨ga, q * 4 + 1, none⟩ (.int .i64 (wrap64 (pa + 1))) = W3 at *
                refine Lib.hid ?_
                go_wp2_with fail
                go_roundg (x.n - (q + 1))
                case measure => omega
                case rel => exact ⟨q + 1, by omega, by go_num, HS3.out⟩
              · have hqI : ¬ (q : Int) < (x.n : Int) := by omega
                go_wp2_with fail
                go_roundg (C.length - (r + 1))
                case measure => omega
                case rel => exact ⟨r + 1, by omega, by go_num, HS.out⟩
          · have hltI : ¬ (r : Int) < (C.length : Int) := by omega
            generalize wr = W4 at *
            have B4 := Lib.hid HS.out.2
            clear HS
            go_wp2_with (go_at_call 8; refine (HA.out _).mono ?_; rintro e w5 ⟨rfl, hw5⟩; refine Hid.out ?_)
            have B5 := Lib.hid (B4.out.trans (hw5.mono B4.out.size))
            clear hw5 B4
            have hS1 := rsame_yes (.slice pi In.length ci) (.slice p l.length cap) In l (by omega) HW.out HIU.out w5 (HIN.out.below B5.out) (HLB.out.below B5.out)
            rw [← HNL.out] at hS1
            have S1 := Lib.hid hS1
            clear hS1
            refine Lib.hid ?_
            go_wp2_with (go_at_call 11; refine S1.out.mono ?_; rintro e w6 ⟨rfl, hw6⟩; refine Hid.out ?_)
            have B6 := Lib.hid (BB.out.trans ((B5.out.trans (hw6.mono B5.out.size)).mono BB.out.size))
            have hmul : IntKind.i64.wrap (2 * (nl : Int)) = (C.length : Int) := by have := HCN.out; rw [IntKind.wrap_i64]; omega
            clear hw6 B5 S1
            refine Lib.hid ?_
            go_wp2_with fail
            go_ret
            exact ⟨rfl, B6.out⟩
end Go.Proofs.Ytkeejifchhakhaa
