/-
  keysWith: how many keys there are, with one change more.
-/
import Derived.Test.YtomnpfbebimpkaaGreatDoorUniMap
import Derived.Test.YtomnpfbebimpkaaGreatDoorUniChg
namespace Go.Proofs.YtomnpfbebimpkaaGreatDoor
set_option maxRecDepth 20000
open Go.RowKit

theorem zeroMd : ((Tryz.prog.info? KM.T).bind (·.zero)).map (·.cells) = some #[Value.int IntKind.i64 0, Value.int IntKind.u64 0, Value.int IntKind.u64 0, Value.int IntKind.u64 0, Value.int IntKind.u64 0, Value.int IntKind.u64 0, Value.int IntKind.u64 0, Value.int IntKind.u64 0, Value.int IntKind.u64 0, Value.int IntKind.u64 0, Value.int IntKind.u64 0, Value.int IntKind.u64 0, Value.int IntKind.u64 0, Value.int IntKind.u64 0, Value.int IntKind.u64 0, Value.int IntKind.u64 0, Value.int IntKind.u64 0, Value.int IntKind.u64 0, Value.int IntKind.u64 0, Value.int IntKind.u64 0, Value.int IntKind.u64 0, Value.int IntKind.u64 0, Value.int IntKind.u64 0, Value.int IntKind.u64 0, Value.int IntKind.u64 0, Value.int IntKind.i64 0, Value.slice none 0 0, Value.int IntKind.i64 0, Value.int IntKind.i64 0, Value.int IntKind.i64 0, Value.bool false] := by kernel_rfl
theorem fillMd (m : Mm) : Instr.fill (fun i' => some (i' * 31, 31)) ((Array.range (1 * 31)).map ((#[Value.int IntKind.i64 0, Value.int IntKind.u64 0, Value.int IntKind.u64 0, Value.int IntKind.u64 0, Value.int IntKind.u64 0, Value.int IntKind.u64 0, Value.int IntKind.u64 0, Value.int IntKind.u64 0, Value.int IntKind.u64 0, Value.int IntKind.u64 0, Value.int IntKind.u64 0, Value.int IntKind.u64 0, Value.int IntKind.u64 0, Value.int IntKind.u64 0, Value.int IntKind.u64 0, Value.int IntKind.u64 0, Value.int IntKind.u64 0, Value.int IntKind.u64 0, Value.int IntKind.u64 0, Value.int IntKind.u64 0, Value.int IntKind.u64 0, Value.int IntKind.u64 0, Value.int IntKind.u64 0, Value.int IntKind.u64 0, Value.int IntKind.u64 0, Value.int IntKind.i64 0, Value.slice none 0 0, Value.int IntKind.i64 0, Value.int IntKind.i64 0, Value.int IntKind.i64 0, Value.bool false] : Array Value)[· % (#[Value.int IntKind.i64 0, Value.int IntKind.u64 0, Value.int IntKind.u64 0, Value.int IntKind.u64 0, Value.int IntKind.u64 0, Value.int IntKind.u64 0, Value.int IntKind.u64 0, Value.int IntKind.u64 0, Value.int IntKind.u64 0, Value.int IntKind.u64 0, Value.int IntKind.u64 0, Value.int IntKind.u64 0, Value.int IntKind.u64 0, Value.int IntKind.u64 0, Value.int IntKind.u64 0, Value.int IntKind.u64 0, Value.int IntKind.u64 0, Value.int IntKind.u64 0, Value.int IntKind.u64 0, Value.int IntKind.u64 0, Value.int IntKind.u64 0, Value.int IntKind.u64 0, Value.int IntKind.u64 0, Value.int IntKind.u64 0, Value.int IntKind.u64 0, Value.int IntKind.i64 0, Value.slice none 0 0, Value.int IntKind.i64 0, Value.int IntKind.i64 0, Value.int IntKind.i64 0, Value.bool false] : Array Value).size]!)) [(0, .agg (mca m))] = some (mca m) := by kernel_rfl
theorem oneM {b : Nat} {m : Mm} {W : World} (h : Blk b (mca m) KM.T W) : KLies KM (.slice (some ⟨b, 0, none⟩) 1 1) [m] W := Blk.klies (l := [m]) h okM (by simp [Kd.flat, mca])
/-- what keysWith has: the change's box, the map, the box of the map -/
structure KwS (w0 : World) (m : Mm) (b c : Nat) (D : List Ru) (W : World) : Prop where
  m : Blk w0.heap.size (mca m) 40 W
  map : KyMap b D W
  box : Blk c #[.map (some b)] 167 W
  kept : Below w0.heap.size w0 W
  lt : w0.heap.size < b
section
variable {w0 W W' : World} {m : Mm} {b c : Nat} {D D' : List Ru}
theorem KwS.below (hb : Below W.heap.size W W') (h : KwS w0 m b c D W) : KwS w0 m b c D W' := ⟨h.m.below hb, h.map.below hb, h.box.below hb, h.kept.trans (hb.mono h.kept.size), h.lt⟩
theorem KwS.upto {W0 : World} (hb : Below W0.heap.size W W') (h0 : KwS w0 m b c D W0) (h : KwS w0 m b c D W) : KwS w0 m b c D W' :=
  ⟨(hb.block _ h0.m.lt).trans h.m, h.map.at (hb.block _ h0.map.lt), (hb.block _ h0.box.lt).trans h.box, h.kept.trans (hb.mono h0.kept.size), h.lt⟩
theorem KwS.count (h : KwS w0 m b c D W) (hm : KyMap b D' W') (hc : Blk c #[.map (some b)] 167 W') (hg : W.grownBy W' (some b)) : KwS w0 m b c D' W' := by
  have hl := h.lt
  exact ⟨(hg.block _ h.m.lt fun e => by injection e with e; omega).trans h.m, hm, hc, h.kept.trans ⟨hg.os, hg.tape, hg.output, hg.size, fun k hk => hg.block k (by have := h.kept.size; omega) fun e => by injection e with e; omega⟩, hl⟩
end
theorem addsK_snoc (ks rs : List Ru) (r : Ru) : addsK ks (rs ++ [r]) = addK (addsK ks rs) r := by rw [addsK_append]; rfl
theorem addL_snoc (ms : List Mu) (m : Mu) : addL (ms ++ [m]) = addL ms ++ (if m.kind = 1 then [kyU m] else []) := by
  unfold addL
  rw [List.filter_append, List.map_append]
  congr 1
  by_cases h : m.kind = 1 <;> simp [h]
set_option maxHeartbeats 4000000 in
set_option maxRecDepth 100000 in
theorem un_keys (x : Um) (B k : Nat) (hF : FitM k x) (m : Mm) (w0 : World) (h : UniA B x w0) :
    Calls Tryz.prog 107 #[.pointer (some ⟨x.p, 0, none⟩), .agg (mca m)] w0 fun e w' => e = .returned (.int .i64 ((keysU x.un.base (chgO x.un.opn ++ [m.u])).length : Int)) ∧ Below w0.heap.size w0 w' := by
  have HCNT := Lib.hid (show (addsK [] (x.un.base.map kyR ++ addL (chgO x.un.opn ++ [m.u]))).length = (keysU x.un.base (chgO x.un.opn ++ [m.u])).length from keys_count hF.fit.tab _)
  rw [← HCNT.out]
  clear HCNT
  have HCO := Lib.hid (show (chgT x.ts ++ [m]).map (·.u) = chgO x.un.opn ++ [m.u] by rw [List.map_append, chgT_u]; rfl)
  rw [← HCO.out]
  clear HCO
  obtain ⟨pb, cb, hvb⟩ := h.base.1.form
  have HVB := Lib.hid hvb
  have HU := Lib.hid h
  have HLC := Lib.hid (show (chgT x.ts).length ≤ 100000 ∧ x.ts.length ≤ 100000 by have := hF.len; omega)
  have HLX := Lib.hid (show (chgT x.ts).length + [m].length ≤ 1000000 by have := hF.len; rw [List.length_singleton]; omega)
  have HLK := Lib.hid (show (chgT x.ts ++ [m]).length ≤ 100000 by have := hF.len; rw [List.length_append, List.length_singleton]; omega)
  have hlb : x.L.length ≤ 9000 := by have := hF.len; omega
  clear h hvb hF
  obtain ⟨n, hn⟩ : ∃ n, n = x.L.length := ⟨_, rfl⟩
  have HN := Lib.hid hn
  rw [← hn] at hlb HVB
  clear hn
  obtain ⟨C, hC⟩ : ∃ C, C = chgT x.ts ++ [m] := ⟨_, rfl⟩
  have HCC := Lib.hid hC
  rw [← hC] at HLK ⊢
  clear hC
  obtain ⟨n2, hn2⟩ : ∃ n2, n2 = C.length := ⟨_, rfl⟩
  have HN2 := Lib.hid hn2
  clear hn2
  have eg : ∀ args w, (callFunc 132 args).run Tryz.prog w = .ok (.enter 132 args) w := fun _ _ => rfl
  have R0 := Lib.hid (Blk.new w0 (mca m) 40)
  have HB0 := Lib.hid (below1 w0 (.cells (mca m) 40))
  have hmm := @run_makeMap Tryz.prog
  go_enter Tryz.func107, Tryz.ntmps107
  go_upto_region 1 with fail
  generalize hW1 : w0.alloc (.cells (mca m) 40) = W1 at *
  clear hW1
  have HM1 := Lib.hid (KyMap.made W1)
  have HB1 := Lib.hid (below1 W1 (.map #[] 0))
  have R1 := Lib.hid (R0.out.below HB1.out)
  have RB := Lib.hid (Blk.new (W1.alloc (.map #[] 0)) #[.map (some W1.heap.size)] 167)
  have HB2 := Lib.hid (below1 (W1.alloc (.map #[] 0)) (.cells #[.map (some W1.heap.size)] 167))
  have RB := Lib.hid (Blk.new2 W1 (.map #[] 0) #[.map (some W1.heap.size)] 167)
  go_upto_region 2 with fail
  have HS := Lib.hid (show KwS w0 m W1.heap.size (W1.heap.size + 1) [] ((W1.alloc (.map #[] 0)).alloc (.cells #[.map (some W1.heap.size)] 167)) from
    ⟨R1.out.below HB2.out, HM1.out.below HB2.out, RB.out, (HB0.out.trans (HB1.out.mono HB0.out.size)).trans (HB2.out.mono (Nat.le_trans HB0.out.size HB1.out.size)), R0.out.lt⟩)
  clear HB0 HB1 HB2 R0 R1 RB HM1
  obtain ⟨bm, hbm⟩ : ∃ bm, bm = W1.heap.size := ⟨_, rfl⟩
  rw [← hbm] at HS ⊢
  clear hbm
  generalize hWW : (W1.alloc (.map #[] 0)).alloc (.cells #[.map (some bm)] 167) = W2 at *
  clear hWW hmm
  have c1 : W2.cell? ⟨x.p, 1, none⟩ = some (.slice pb n cb) := by rw [← HVB.out]; exact (HU.out.below HS.out.kept).vb_
  go_wp2_with fail
  clear c1
  go_loopg [18] n (fun k s18 wr => ∃ r : Nat, r + k = n ∧ s18 = .int .i64 r ∧ KwS w0 m bm (bm + 1) (addsK [] (((x.L.take r).map (·.u)).map kyR)) wr)
  case atStart => exact ⟨0, by omega, rfl, HS.out⟩
  case round =>
    clear HS
    obtain ⟨r, hr, rfl, hs⟩ := hrel
    have HS := Lib.hid hs
    clear hs
    by_cases hlt : r < n
    · have hltI : (r : Int) < (n : Int) := by omega
      obtain ⟨y, hy⟩ := lt_some (l := x.L) (i := r) (by have := HN.out; omega)
      obtain ⟨bb, o, rfl, hrg⟩ := (show KLies KR (.slice pb n cb) x.L wr by rw [← HVB.out]; exact (HU.out.below HS.out.kept).base.1.lies okR).at hy
      have HR := Lib.hid hrg
      have HAD := Lib.hid (show addK (addsK [] (((x.L.take r).map (·.u)).map kyR)) (kyR y.u) = addsK [] (((x.L.take (r + 1)).map (·.u)).map kyR) by
        rw [List.take_add_one, hy, List.map_append, List.map_append]
        exact (addsK_snoc _ _ _).symm)
      clear hrg hy
      go_upto_region 6 with (first
        | (refine wpList_load_mid rfl 88 _ rfl bb (o + r * 32) rfl (rcl y) _ HR.out Tryz.underlying88 rfl infoR ?_)
        | (refine wpList_store_row rfl 88 _ _ rfl wr.heap.size (rca y) rfl rfl 88 _ (heap_alloc_new _ _) (by kernel_rfl) rfl (rca_one _) ?_; rw [World.setRow_alloc_new]))
      have RX := Lib.hid (Blk.new wr (rca y) 88)
      have HS1 := Lib.hid (KwS.below (below1 wr (.cells (rca y) 88)) HS.out)
      clear HR HS
      generalize hW1 : wr.alloc (.cells (rca y) 88) = W1 at *
      clear hW1
      obtain ⟨mt, k24, _⟩ := RX.out.cellsR
      have MT := Lib.hid mt
      have HCT := Lib.hid (un_count (kyR y.u) bm (bm + 1) _ W1 HS1.out.map HS1.out.box)
      clear mt RX
      go_wp2_with (first
        | (refine wpList_load_mid rfl 37 _ rfl wr.heap.size 0 rfl (cl y.u.m) _ MT.out Tryz.underlying37 rfl infoCube ?_)
        | (go_at_fn 132; refine HCT.out.mono ?_; rintro e w2 ⟨rfl, h1, h2, h3⟩; refine Hid.out ?_))
      have HS2 := Lib.hid (HS1.out.count (HAD.out ▸ h1) h2 h3)
      clear h1 h2 h3 HS1 MT k24 HCT
      refine Lib.hid ?_
      go_wp2_with fail
      go_roundg (n - (r + 1))
      case measure => omega
      case rel => exact ⟨r + 1, by omega, by go_num, HS2.out⟩
    · have hltI : ¬ (r : Int) < (n : Int) := by omega
      have HF := Lib.hid (show KwS w0 m bm (bm + 1) (addsK [] (x.un.base.map kyR)) wr by
        have e : x.L.take r = x.L := List.take_of_length_le (by have := HN.out; omega)
        have h := HS.out
        rw [e] at h
        exact h)
      clear HS
      have hl2 : n2 ≤ 100000 := by rw [HN2.out]; exact HLK.out
      clear HN HVB hlt
      go_upto_region 8 with fail
      have HSW := Lib.hid (KwS.below (Below.refl _ wr).drew HF.out)
      refine wp_region_held_drew (S := fun W' => Blk w0.heap.size (mca m) 40 W') (by kernel_rfl) HSW.out.m (fun hS => ?_)
      clear HF
      generalize wr.drew = W at *
      refine seqRead 0 (v := _) rfl (by kernel_rfl) (by kernel_rfl) (by kernel_rfl) (fun _ _ _ h => h) rfl (fun w hSw => by go_simp <;> with_reducible rfl) hS ?_
      try simp only [Act.put, List.setIfInBounds_toArray, List.set_cons_zero, List.set_cons_succ]
      refine seqRead 2 (v := _) rfl (by kernel_rfl) (by kernel_rfl) (by kernel_rfl) (fun _ _ _ h => h) rfl (fun w hSw => (show (execOp _ _).run _ w = .ok (.value (.agg (mca m))) w from execRow0 rfl w0.heap.size rfl hSw Tryz.underlying40 rfl infoMod)) hS ?_
      try simp only [Act.put, List.setIfInBounds_toArray, List.set_cons_zero, List.set_cons_succ]
      refine seqRead 6 (v := _) rfl (by kernel_rfl) (by kernel_rfl) (by kernel_rfl) (fun _ _ _ h => h) rfl (fun w hSw => by go_simp <;> with_reducible rfl) hS ?_
      try simp only [Act.put, List.setIfInBounds_toArray, List.set_cons_zero, List.set_cons_succ]
      refine seqActs2 1 3 rfl rfl (by kernel_rfl) rfl (fun K hK => ?_) rfl (fun K hK => ?_)
      · go_simp
        refine (un_changes x B HLC.out W (HU.out.below HSW.out.kept)).mono ?_
        rintro e Wa ⟨vc, rfl, hvc, hb⟩
        have HSWa := Lib.hid (KwS.below hb HSW.out)
        have HVCWa := Lib.hid hvc
        have HSZ := Lib.hid hb.size
        refine hK.out _ _ HSWa.out.m (fun hS => ?_)
        clear hK K hvc hb
        try simp only [Act.put, List.setIfInBounds_toArray, List.set_cons_zero, List.set_cons_succ]
        refine seqCall 3 rfl (by kernel_rfl) rfl (fun K hK => ?_)
        refine kbuildOneWp KM okM #[Value.int IntKind.i64 0, Value.int IntKind.u64 0, Value.int IntKind.u64 0, Value.int IntKind.u64 0, Value.int IntKind.u64 0, Value.int IntKind.u64 0, Value.int IntKind.u64 0, Value.int IntKind.u64 0, Value.int IntKind.u64 0, Value.int IntKind.u64 0, Value.int IntKind.u64 0, Value.int IntKind.u64 0, Value.int IntKind.u64 0, Value.int IntKind.u64 0, Value.int IntKind.u64 0, Value.int IntKind.u64 0, Value.int IntKind.u64 0, Value.int IntKind.u64 0, Value.int IntKind.u64 0, Value.int IntKind.u64 0, Value.int IntKind.u64 0, Value.int IntKind.u64 0, Value.int IntKind.u64 0, Value.int IntKind.u64 0, Value.int IntKind.u64 0, Value.int IntKind.i64 0, Value.slice none 0 0, Value.int IntKind.i64 0, Value.int IntKind.i64 0, Value.int IntKind.i64 0, Value.bool false] zeroMd (.tmp 31) rfl (mca m) rfl (by decide) (fillMd m) ?_
        have HSWab := Lib.hid (KwS.below (below1 Wa (.cells (mca m) KM.T)) HSWa.out)
        have HBSWab := Lib.hid (Blk.new Wa (mca m) KM.T)
        have HVCWab := Lib.hid (HVCWa.out.below (below1 Wa (.cells (mca m) KM.T)))
        have HSZ2 := Lib.hid (Nat.le_trans HSZ.out (below1 Wa (.cells (mca m) KM.T)).size)
        refine hK.out _ _ HSWab.out.m (fun hS => ?_)
        clear hK K
        generalize hWb : Wa.alloc (.cells (mca m) KM.T) = Wab at *
        clear hWb
        try simp only [Act.put, List.setIfInBounds_toArray, List.set_cons_zero, List.set_cons_succ]
        refine seqCall 4 rfl (by kernel_rfl) rfl (fun K hK => ?_)
        refine kappendWp KM okM (.tmp 30) (.tmp 32) rfl W.heap.size vc (chgT x.ts) [m] rfl HVCWab.out _ rfl (oneM HBSWab.out) HSZ2.out HLX.out (fun v5 w5 ho5 hg5 => ?_)
        have HB5 := Lib.hid (Below.grown (Below.refl W.heap.size Wab) hg5 HSZ2.out (fun k e => HVCWab.out.ge k e))
        have HS5 := Lib.hid (KwS.upto HB5.out HSW.out HSWab.out)
        have HO5 := Lib.hid (show KOwns KM (bm + 1) v5 C w5 by rw [HCC.out]; exact ho5.mono HSW.out.map.lt)
        obtain ⟨p5, c5, e5⟩ := HO5.out.form
        rw [← HN2.out] at e5
        subst e5
        refine hK.out _ _ HS5.out.m (fun hS => ?_)
        clear hK K ho5 hg5 HB5 HSZ
        try simp only [Act.put, List.setIfInBounds_toArray, List.set_cons_zero, List.set_cons_succ]
        refine seqRead 5 (v := _) rfl (by kernel_rfl) (by kernel_rfl) (by kernel_rfl) (fun _ _ _ h => h) rfl (fun w hSw => by go_simp <;> with_reducible rfl) hS ?_
        try simp only [Act.put, List.setIfInBounds_toArray, List.set_cons_zero, List.set_cons_succ]
        refine seqDone (by kernel_rfl) ?_
        clear hS
        go_wp2_with fail
        go_loopg [35] n2 (fun k s35 wr => ∃ r : Nat, r + k = n2 ∧ s35 = .int .i64 r ∧ KwS w0 m bm (bm + 1) (addsK [] (x.un.base.map kyR ++ addL ((C.take r).map (·.u)))) wr ∧ KOwns KM (bm + 1) (.slice p5 n2 c5) C wr)
        case atStart => exact ⟨0, by omega, rfl, by rw [show addL ((C.take 0).map (·.u)) = [] from rfl, List.append_nil]; exact HS5.out, HO5.out⟩
        case round =>
          obtain ⟨r, hr, rfl, hs, ho⟩ := hrel
          have HS := Lib.hid hs
          have HO := Lib.hid ho
          clear hs ho
          by_cases hlt : r < n2
          · have hltI : (r : Int) < (n2 : Int) := by omega
            obtain ⟨y, hy⟩ := lt_some (l := C) (i := r) (by have := HN2.out; omega)
            obtain ⟨bb, o, rfl, hrg⟩ := (HO.out.lies okM).at hy
            have HR := Lib.hid hrg
            have HTK := Lib.hid (show addL ((C.take (r + 1)).map (·.u)) = addL ((C.take r).map (·.u)) ++ (if y.u.kind = 1 then [kyU y.u] else []) by
              rw [List.take_add_one, hy, List.map_append]
              exact addL_snoc _ _)
            clear hrg hy
            go_upto_region 11 with (first
              | (refine wpList_load_mid rfl 40 _ rfl bb (o + r * 31) rfl (mcl y) _ HR.out Tryz.underlying40 rfl infoMod ?_)
              | (refine wpList_store_row rfl 40 _ _ rfl wr.heap.size (mca y) rfl rfl 40 _ (heap_alloc_new _ _) (by kernel_rfl) rfl (mca_one _) ?_; rw [World.setRow_alloc_new]))
            have RX := Lib.hid (Blk.new wr (mca y) 40)
            have HBW := Lib.hid (below1 wr (.cells (mca y) 40))
            have HS1 := Lib.hid (KwS.below HBW.out HS.out)
            have HO1 := Lib.hid (HO.out.below HBW.out)
            clear HR HS HO HBW
            generalize hW1 : wr.alloc (.cells (mca y) 40) = W1 at *
            clear hW1
            obtain ⟨k0, mt, k25, _⟩ := RX.out.cellsM
            have MT := Lib.hid mt
            clear mt RX
            by_cases hk : y.u.kind = 1
            · have hk' : (y.u.kind == 1) = true := by simpa using hk
              have HCT := Lib.hid (un_count (kyU y.u) bm (bm + 1) _ W1 HS1.out.map HS1.out.box)
              have HAD := Lib.hid (show addK (addsK [] (x.un.base.map kyR ++ addL ((C.take r).map (·.u)))) (kyU y.u) = addsK [] (x.un.base.map kyR ++ addL ((C.take (r + 1)).map (·.u))) by rw [HTK.out, if_pos hk, ← List.append_assoc, addsK_snoc])
              clear hk
              go_wp2_with (first
                | (refine wpList_load_mid rfl 37 _ rfl wr.heap.size 1 rfl (cl y.u.m) _ MT.out Tryz.underlying37 rfl infoCube ?_)
                | (go_at_fn 132; refine HCT.out.mono ?_; rintro e w2 ⟨rfl, h1, h2, h3⟩; refine Hid.out ?_))
              have HS2 := Lib.hid (HS1.out.count (HAD.out ▸ h1) h2 h3)
              have HO2 := Lib.hid (HO1.out.other fun g hg hl => h3.block g hl fun e => by injection e with e; omega)
              clear h1 h2 h3 HS1 HO1 MT k0 k25 HCT hk'
              refine Lib.hid ?_
              go_wp2_with fail
              go_roundg (n2 - (r + 1))
              case measure => omega
              case rel => exact ⟨r + 1, by omega, by go_num, HS2.out, HO2.out⟩
            · have hk' : (y.u.kind == 1) = false := by simpa using hk
              have HAD := Lib.hid (show addsK [] (x.un.base.map kyR ++ addL ((C.take r).map (·.u))) = addsK [] (x.un.base.map kyR ++ addL ((C.take (r + 1)).map (·.u))) by rw [HTK.out, if_neg hk, List.append_nil])
              clear hk MT
              go_wp2_with fail
              go_roundg (n2 - (r + 1))
              case measure => omega
              case rel => exact ⟨r + 1, by omega, by go_num, by rw [← HAD.out]; exact HS1.out, HO1.out⟩
          · have hltI : ¬ (r : Int) < (n2 : Int) := by omega
            have HF := Lib.hid (show C.take r = C from List.take_of_length_le (by have := HN2.out; omega))
            obtain ⟨D, hD⟩ : ∃ D, D = addsK [] (x.un.base.map kyR ++ addL (C.map (·.u))) := ⟨_, rfl⟩
            have HD := Lib.hid hD
            have HSF := Lib.hid (show KwS w0 m bm (bm + 1) D wr by have h := HS.out; rw [HF.out, ← HD.out] at h; exact h)
            have c0 : wr.cell? ⟨bm + 1, 0, none⟩ = some (.map (some bm)) := (cell_of_row _ (bm + 1) 0 _ _ _ HSF.out.box).trans rfl
            clear hD HS HF
            go_wp2_with (refine wpLenKy rfl _ rfl bm _ rfl HSF.out.map ?_)
            go_ret
            exact ⟨by rw [← HD.out]; rfl, HSF.out.kept⟩
      · refine kbuildOneWp KM okM #[Value.int IntKind.i64 0, Value.int IntKind.u64 0, Value.int IntKind.u64 0, Value.int IntKind.u64 0, Value.int IntKind.u64 0, Value.int IntKind.u64 0, Value.int IntKind.u64 0, Value.int IntKind.u64 0, Value.int IntKind.u64 0, Value.int IntKind.u64 0, Value.int IntKind.u64 0, Value.int IntKind.u64 0, Value.int IntKind.u64 0, Value.int IntKind.u64 0, Value.int IntKind.u64 0, Value.int IntKind.u64 0, Value.int IntKind.u64 0, Value.int IntKind.u64 0, Value.int IntKind.u64 0, Value.int IntKind.u64 0, Value.int IntKind.u64 0, Value.int IntKind.u64 0, Value.int IntKind.u64 0, Value.int IntKind.u64 0, Value.int IntKind.u64 0, Value.int IntKind.i64 0, Value.slice none 0 0, Value.int IntKind.i64 0, Value.int IntKind.i64 0, Value.int IntKind.i64 0, Value.bool false] zeroMd (.tmp 31) rfl (mca m) rfl (by decide) (fillMd m) ?_
        have HSWb := Lib.hid (KwS.below (below1 W (.cells (mca m) KM.T)) HSW.out)
        have HBSWb := Lib.hid (Blk.new W (mca m) KM.T)
        refine hK.out _ _ HSWb.out.m (fun hS => ?_)
        clear hK K
        generalize hWb : W.alloc (.cells (mca m) KM.T) = Wb at *
        clear hWb
        try simp only [Act.put, List.setIfInBounds_toArray, List.set_cons_zero, List.set_cons_succ]
        refine seqCall 1 rfl (by kernel_rfl) rfl (fun K hK => ?_)
        go_simp
        refine (un_changes x B HLC.out Wb (HU.out.below HSWb.out.kept)).mono ?_
        rintro e Wba ⟨vc, rfl, hvc, hb⟩
        have HSWba := Lib.hid (KwS.below hb HSWb.out)
        have HVCWba := Lib.hid hvc
        have HSZ := Lib.hid hb.size
        have HBSWba := Lib.hid (HBSWb.out.below hb)
        refine hK.out _ _ HSWba.out.m (fun hS => ?_)
        clear hK K hvc hb
        try simp only [Act.put, List.setIfInBounds_toArray, List.set_cons_zero, List.set_cons_succ]
        refine seqCall 4 rfl (by kernel_rfl) rfl (fun K hK => ?_)
        refine kappendWp KM okM (.tmp 30) (.tmp 32) rfl Wb.heap.size vc (chgT x.ts) [m] rfl HVCWba.out _ rfl (oneM HBSWba.out) HSZ.out HLX.out (fun v5 w5 ho5 hg5 => ?_)
        have HB5 := Lib.hid (Below.grown (Below.refl Wb.heap.size Wba) hg5 HSZ.out (fun k e => HVCWba.out.ge k e))
        have HS5 := Lib.hid (KwS.upto HB5.out HSWb.out HSWba.out)
        have HO5 := Lib.hid (show KOwns KM (bm + 1) v5 C w5 by rw [HCC.out]; exact ho5.mono HSWb.out.map.lt)
        obtain ⟨p5, c5, e5⟩ := HO5.out.form
        rw [← HN2.out] at e5
        subst e5
        refine hK.out _ _ HS5.out.m (fun hS => ?_)
        clear hK K ho5 hg5 HB5 HSZ
        try simp only [Act.put, List.setIfInBounds_toArray, List.set_cons_zero, List.set_cons_succ]
        refine seqRead 5 (v := _) rfl (by kernel_rfl) (by kernel_rfl) (by kernel_rfl) (fun _ _ _ h => h) rfl (fun w hSw => by go_simp <;> with_reducible rfl) hS ?_
        try simp only [Act.put, List.setIfInBounds_toArray, List.set_cons_zero, List.set_cons_succ]
        refine seqDone (by kernel_rfl) ?_
        clear hS
        go_wp2_with fail
        go_loopg [35] n2 (fun k s35 wr => ∃ r : Nat, r + k = n2 ∧ s35 = .int .i64 r ∧ KwS w0 m bm (bm + 1) (addsK [] (x.un.base.map kyR ++ addL ((C.take r).map (·.u)))) wr ∧ KOwns KM (bm + 1) (.slice p5 n2 c5) C wr)
        case atStart => exact ⟨0, by omega, rfl, by rw [show addL ((C.take 0).map (·.u)) = [] from rfl, List.append_nil]; exact HS5.out, HO5.out⟩
        case round =>
          obtain ⟨r, hr, rfl, hs, ho⟩ := hrel
          have HS := Lib.hid hs
          have HO := Lib.hid ho
          clear hs ho
          by_cases hlt : r < n2
          · have hltI : (r : Int) < (n2 : Int) := by omega
            obtain ⟨y, hy⟩ := lt_some (l := C) (i := r) (by have := HN2.out; omega)
            obtain ⟨bb, o, rfl, hrg⟩ := (HO.out.lies okM).at hy
            have HR := Lib.hid hrg
            have HTK := Lib.hid (show addL ((C.take (r + 1)).map (·.u)) = addL ((C.take r).map (·.u)) ++ (if y.u.kind = 1 then [kyU y.u] else []) by
              rw [List.take_add_one, hy, List.map_append]
              exact addL_snoc _ _)
            clear hrg hy
            go_upto_region 11 with (first
              | (refine wpList_load_mid rfl 40 _ rfl bb (o + r * 31) rfl (mcl y) _ HR.out Tryz.underlying40 rfl infoMod ?_)
              | (refine wpList_store_row rfl 40 _ _ rfl wr.heap.size (mca y) rfl rfl 40 _ (heap_alloc_new _ _) (by kernel_rfl) rfl (mca_one _) ?_; rw [World.setRow_alloc_new]))
            have RX := Lib.hid (Blk.new wr (mca y) 40)
            have HBW := Lib.hid (below1 wr (.cells (mca y) 40))
            have HS1 := Lib.hid (KwS.below HBW.out HS.out)
            have HO1 := Lib.hid (HO.out.below HBW.out)
            clear HR HS HO HBW
            generalize hW1 : wr.alloc (.cells (mca y) 40) = W1 at *
            clear hW1
            obtain ⟨k0, mt, k25, _⟩ := RX.out.cellsM
            have MT := Lib.hid mt
            clear mt RX
            by_cases hk : y.u.kind = 1
            · have hk' : (y.u.kind == 1) = true := by simpa using hk
              have HCT := Lib.hid (un_count (kyU y.u) bm (bm + 1) _ W1 HS1.out.map HS1.out.box)
              have HAD := Lib.hid (show addK (addsK [] (x.un.base.map kyR ++ addL ((C.take r).map (·.u)))) (kyU y.u) = addsK [] (x.un.base.map kyR ++ addL ((C.take (r + 1)).map (·.u))) by rw [HTK.out, if_pos hk, ← List.append_assoc, addsK_snoc])
              clear hk
              go_wp2_with (first
                | (refine wpList_load_mid rfl 37 _ rfl wr.heap.size 1 rfl (cl y.u.m) _ MT.out Tryz.underlying37 rfl infoCube ?_)
                | (go_at_fn 132; refine HCT.out.mono ?_; rintro e w2 ⟨rfl, h1, h2, h3⟩; refine Hid.out ?_))
              have HS2 := Lib.hid (HS1.out.count (HAD.out ▸ h1) h2 h3)
              have HO2 := Lib.hid (HO1.out.other fun g hg hl => h3.block g hl fun e => by injection e with e; omega)
              clear h1 h2 h3 HS1 HO1 MT k0 k25 HCT hk'
              refine Lib.hid ?_
              go_wp2_with fail
              go_roundg (n2 - (r + 1))
              case measure => omega
              case rel => exact ⟨r + 1, by omega, by go_num, HS2.out, HO2.out⟩
            · have hk' : (y.u.kind == 1) = false := by simpa using hk
              have HAD := Lib.hid (show addsK [] (x.un.base.map kyR ++ addL ((C.take r).map (·.u))) = addsK [] (x.un.base.map kyR ++ addL ((C.take (r + 1)).map (·.u))) by rw [HTK.out, if_neg hk, List.append_nil])
              clear hk MT
              go_wp2_with fail
              go_roundg (n2 - (r + 1))
              case measure => omega
              case rel => exact ⟨r + 1, by omega, by go_num, by rw [← HAD.out]; exact HS1.out, HO1.out⟩
          · have hltI : ¬ (r : Int) < (n2 : Int) := by omega
            have HF := Lib.hid (show C.take r = C from List.take_of_length_le (by have := HN2.out; omega))
            obtain ⟨D, hD⟩ : ∃ D, D = addsK [] (x.un.base.map kyR ++ addL (C.map (·.u))) := ⟨_, rfl⟩
            have HD := Lib.hid hD
            have HSF := Lib.hid (show KwS w0 m bm (bm + 1) D wr by have h := HS.out; rw [HF.out, ← HD.out] at h; exact h)
            have c0 : wr.cell? ⟨bm + 1, 0, none⟩ = some (.map (some bm)) := (cell_of_row _ (bm + 1) 0 _ _ _ HSF.out.box).trans rfl
            clear hD HS HF
            go_wp2_with (refine wpLenKy rfl _ rfl bm _ rfl HSF.out.map ?_)
            go_ret
            exact ⟨by rw [← HD.out]; rfl, HSF.out.kept⟩
end Go.Proofs.YtomnpfbebimpkaaGreatDoor
