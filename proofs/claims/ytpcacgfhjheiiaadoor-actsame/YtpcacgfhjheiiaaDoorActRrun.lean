/-
  The walk of the reference's Run of package act.
-/
import Derived.Test.YtpcacgfhjheiiaaDoorActRef
namespace Go.Proofs.YtpcacgfhjheiiaaDoor
open Go.RowKit

/-- An operation that only reads, in a region whose first operations only read. -/
theorem stillRead {P : Program} {ops : Array Oper} {w : World} {Q : Act → Prop} {a : Act} {o : Oper} {rest : List Oper} (v : Value) (hg : Region.wanted o (yielded ops a.tmps) = true) (hv : (execOp a.eval o).run P w = .ok (.value v) w)
    (h : wpStill P ops w Q rest (a.put o.dst v)) : wpStill P ops w Q (o :: rest) a := by
  refine wpStill_step fun K hK => ?_
  rw [if_pos hg]
  unfold Oper.still
  rw [hv, Oper.stillUpon_value]
  exact hK _ h
theorem execRow0 {P : Program} {a : Act} {oi : Oper} {w : World} {ty : TypeId} {x : Operand} (ho : oi.op = .load ty x) (b : Nat) (hx : a.eval x = .pointer (some ⟨b, 0, none⟩)) {cs : Array Value} {t : TypeId} (hb : Blk b cs t w)
    {d : TypeDesc} (hu : P.underlying ty = some d) (hd : d.isRow = true) (hi : (P.info? ty).map (·.size) = some cs.size) : (execOp a.eval oi).run P w = .ok (.value (.agg cs)) w := by
  unfold execOp
  simp only [ho, hx, Instr.loadAt, Instr.sureAddr, Sem.run_bind, Sem.run_pure, Result.andThen_ok, run_loadVar_row w b t ty cs (0, 0) d hb hu (by cases d <;> first | rfl | (simp [TypeDesc.isRow] at hd)) hi]
theorem execBuildS {a : Act} {oi : Oper} {w : World} {x y : Operand} (ho : oi.op = .build 32 #[(0, x), (1, y)]) (p : Int) (g : Nat → Int) (hx : a.eval x = .int .i64 p) (hy : a.eval y = .agg (hc g)) :
    (execOp a.eval oi).run Tryd.prog w = .ok (.value (.agg (sna ⟨p, g⟩))) w := by
  have e : (Instr.build 32 #[(0, .int .i64 p), (1, .agg (hc g))]).run Tryd.prog w = .ok (.agg (sna ⟨p, g⟩)) w := run_build w _ _ _ (builtS p g)
  unfold execOp
  simp only [ho, List.map_toArray, List.map_cons, List.map_nil, hx, hy, Sem.run_bind, e, Result.andThen_ok, Sem.run_pure]
theorem cellsA {W : World} {b o : Nat} {c : Ac} (h : W.rangeAt b o (acl c)) : W.cell? ⟨b, o, none⟩ = some (.int .i64 c.k) ∧ W.cell? ⟨b, o + 1, none⟩ = some (.int .i64 c.p) ∧ W.cell? ⟨b, o + 2, none⟩ = some (.int .i64 c.f) ∧ W.cell? ⟨b, o + 3, none⟩ = some (.int .u64 c.v) :=
  ⟨h 0 _ rfl, h 1 _ rfl, h 2 _ rfl, h 3 _ rfl⟩
/-- Any elements more at a slice of one's own, in a region walked by hand, by what they weigh. -/
theorem kappendWpB {α : Type} (K : Kd α) (ok : K.Ok) {o : Oper} {a : Act} {w : World} {Kt : Act → World → Prop} {Q : Exit → Act → World → Prop} (s x : Operand)
    (ho : o.op = .call { callee := .builtin .append, args := #[s, x], argTypes := #[K.S, K.S] }) (base : Nat) (v : Value) (l k : List α) (hs : a.eval s = v) (hown : KOwns K base v l w)
    (u : Value) (hx : a.eval x = u) (hk : KLies K u k w) (hbase : base ≤ w.heap.size) (hlen : (l.length + k.length) * K.room ≤ 140737488355328)
    (h : ∀ v' w', KOwns K base v' (l ++ k) w' → w.grownBy w' v.ownBlock → Kt (a.put o.dst v') w') : o.wp Tryd.prog a w Kt Q := by
  obtain ⟨i, z, hi, hz, hsz, hby, hc⟩ := ok.info
  have hnm : l.length + k.length ≤ 140737488355328 := Nat.le_trans (by have := Nat.mul_le_mul_left (l.length + k.length) ok.room1; omega) hlen
  rcases hk with ⟨rfl, rfl⟩ | ⟨ad, cap, rfl, hcap, hr⟩
  · have hrun := run_append_owned_none (P := Tryd.prog) (w := w) base K.S o.type K.T i K.n ok.under hi v l.length (K.flat l) hown
    have hq := h v w (by rw [List.append_nil]; exact hown) ⟨rfl, rfl, rfl, Nat.le_refl _, fun _ _ _ => rfl⟩
    unfold Oper.wp
    simp [execOp, ho, resolve, invoke, builtin, hs, hx, hrun, Result.andThen]
    exact hq
  · obtain ⟨v', w', hr', h2, h3, h4, h5⟩ := run_append_own_at (P := Tryd.prog) w base K.S o.type K.T i z K.n K.room ok.under hi hz hsz hby hc ok.pos v l.length (K.flat l) hown ad k.length cap (K.flat k) (ok.flat_len k)
      (KLies.news (.inr ⟨ad, cap, rfl, hcap, hr⟩) ok) (ok.flat_one k) (by unfold maxLen; omega) hlen hbase
    unfold Oper.wp execOp
    simp only [ho, resolve, invoke, builtin, Sem.run_bind, Sem.run_pure, Result.andThen_ok, List.map_toArray, List.map_cons, List.map_nil, hs, hx, hr']
    refine h v' w' ?_ h3
    unfold KOwns
    rw [List.length_append, K.flat_append]
    exact h2
theorem kappendWp {α : Type} (K : Kd α) (ok : K.Ok) {o : Oper} {a : Act} {w : World} {Kt : Act → World → Prop} {Q : Exit → Act → World → Prop} (s x : Operand)
    (ho : o.op = .call { callee := .builtin .append, args := #[s, x], argTypes := #[K.S, K.S] }) (base : Nat) (v : Value) (l k : List α) (hs : a.eval s = v) (hown : KOwns K base v l w)
    (u : Value) (hx : a.eval x = u) (hk : KLies K u k w) (hbase : base ≤ w.heap.size) (hlen : l.length + k.length ≤ 1000000)
    (h : ∀ v' w', KOwns K base v' (l ++ k) w' → w.grownBy w' v.ownBlock → Kt (a.put o.dst v') w') : o.wp Tryd.prog a w Kt Q :=
  kappendWpB K ok s x ho base v l k hs hown u hx hk hbase (ok.light hlen) h
theorem kbuildOneWp {α : Type} (K : Kd α) (ok : K.Ok) (zs : Array Value) (hzs : ((Tryd.prog.info? K.T).bind (·.zero)).map (·.cells) = some zs) {o : Oper} {a : Act} {w : World} {Kt : Act → World → Prop} {Q : Exit → Act → World → Prop}
    (x : Operand) (ho : o.op = .buildSlice K.S 1 #[(0, x)]) (cs : Array Value) (hx : a.eval x = .agg cs) (hsm : 1 * K.n ≤ 1000) (hf : Instr.fill (fun i' => some (i' * K.n, K.n)) ((Array.range (1 * K.n)).map (zs[· % zs.size]!)) [(0, .agg cs)] = some cs)
    (h : Kt (a.put o.dst (.slice (some ⟨w.heap.size, 0, none⟩) 1 1)) (w.alloc (.cells cs K.T))) : o.wp Tryd.prog a w Kt Q := by
  obtain ⟨i, z, hi, hz, hs, hb, hc⟩ := ok.info
  have hzc := zeroOf hzs hi hz
  refine wp_buildSlice K.S K.T 1 _ ho cs i z ok.under hi hz ?_ ?_ ?_ h
  · rw [hs]; omega
  · rw [hs]
    have := ok.pos
    omega
  · rw [hs, hzc]
    have e : ((#[(0, x)] : Array (Nat × Operand)).map fun (p : Nat × Operand) => (p.1, a.eval p.2)).toList = [(0, .agg cs)] := by simp [hx]
    exact (congrArg (Instr.fill (fun i' => some (i' * K.n, K.n)) ((Array.range (1 * K.n)).map (zs[· % zs.size]!))) e).trans hf
theorem kbuildNoneWp {α : Type} (K : Kd α) (ok : K.Ok) {o : Oper} {a : Act} {w : World} {Kt : Act → World → Prop} {Q : Exit → Act → World → Prop} (ho : o.op = .buildSlice K.S 0 #[])
    (h : Kt (a.put o.dst (.slice (some ⟨w.heap.size, 0, none⟩) 0 0)) (w.alloc (.cells #[] K.T))) : o.wp Tryd.prog a w Kt Q := by
  obtain ⟨i, z, hi, hz, hs, hb, hc⟩ := ok.info
  have hr : ∀ parts : Array (Nat × Value), parts.toList = [] → (Instr.buildSlice K.S 0 parts).run Tryd.prog w = .ok (.slice (some ⟨w.heap.size, 0, none⟩) 0 0) (w.alloc (.cells #[] K.T)) := fun parts hp => by
    simp [Instr.buildSlice, run_underlying ok.under, sizeOf, typeInfo, hi, hp, Instr.fill, newRow]
    congr 2
    exact Array.eq_empty_of_size_eq_zero (by simp)
  unfold Oper.wp execOp
  simp only [ho, Sem.run_bind]
  rw [hr _ (by simp)]
  exact h
/-- a list of actions lies in memory, a header in a block -/
def RunS (w : World) (v : Value) (l : List Ac) (g : Nat → Int) (W : World) : Prop := KLies KA v l W ∧ Blk w.heap.size (hc g) 25 W
theorem RunS.below {w : World} {v : Value} {l : List Ac} {g : Nat → Int} {W W' : World} (hb : Below W.heap.size W W') (h : RunS w v l g W) : RunS w v l g W' := ⟨h.1.below okA hb, h.2.below hb⟩
theorem rrun_none (v : Value) (l : List Ac) (h : Nat → Int) (hlen : l.length ≤ 140737488355328) (hw : WfAL l) (hs : sndAL l = false) (w : World) (hl : KLies KA v l w) :
    Calls Tryd.prog 9 #[v, .agg (hc h)] w (RunRet w [] false) := by
  have HB0 := Lib.hid (below1 w (.cells (hc h) 25))
  have HS := Lib.hid (racts_any v l hlen hw _ (hl.below okA HB0.out))
  obtain ⟨p, cap, rfl⟩ := hl.form
  rw [hs] at HS
  clear hl hw hs
  go_enter Tryd.func9, Tryd.ntmps9
  go_wp2_with (go_at_call 11; refine HS.out.mono ?_; rintro e w1 ⟨rfl, hw1⟩)
  have HB := Lib.hid (HB0.out.trans (hw1.mono HB0.out.size))
  clear hw1 HB0 HS
  go_ret2
  exact ⟨_, rfl, KOwns.nil _ _, HB.out⟩
theorem RunAt.drew {w W : World} {g : Nat → Int} {out : Value} {L : List Sn} (h : RunAt w g out L W) : RunAt w g out L W.drew := h.below (Below.refl _ _).drew
theorem RunAt.cset {w W : World} {g : Nat → Int} {out : Value} {L : List Sn} (h : RunAt w g out L W) {k : Nat} (hk : k < 12) (x : Int) : RunAt w (upd g k x) out L (W.setCell ⟨w.heap.size, k, none⟩ (.int .u64 x)) :=
  ⟨(heap_setCell_same W w.heap.size k (hc g) 25 (.int .u64 x) h.1).trans (by rw [hc_set g x k hk]), h.2.1.other fun b hb _ => heap_setCell_other W _ b _ (by show b ≠ w.heap.size; omega), h.2.2.setCell (Nat.le_refl _) _⟩
set_option maxRecDepth 100000 in
set_option maxHeartbeats 4000000 in
theorem rrun_yes (v : Value) (l : List Ac) (h : Nat → Int) (T : List Sn) (B : Bool) (hT : runS h l = T) (hB : hasT l = B) (hlen : l.length ≤ 140737488355328) (hw : WfAL l) (hs : sndAL l = true) (w : World) (hl : KLies KA v l w) :
    Calls Tryd.prog 9 #[v, .agg (hc h)] w (RunRet w T B) := by
  have HB0 := Lib.hid (below1 w (.cells (hc h) 25))
  have HS := Lib.hid (racts_any v l hlen hw _ (hl.below okA HB0.out))
  rw [hs] at HS
  obtain ⟨p, cap, rfl⟩ := hl.form
  have HL := Lib.hid hl
  have HK := Lib.hid hs
  have HT := Lib.hid (And.intro hT hB)
  have hl8 := snd_len hs
  clear hl hw hs hT hB
  go_enter Tryd.func9, Tryd.ntmps9
  go_wp2_with (go_at_call 11; refine HS.out.mono ?_; rintro e w1 ⟨rfl, hw1⟩)
  have HA := Lib.hid (show RunAt w h (.slice none 0 0) [] w1 from ⟨(Blk.new w (hc h) 25).below hw1, KOwns.nil _ _, HB0.out.trans (hw1.mono HB0.out.size)⟩)
  clear hw1 HB0 HS
  go_loopw [8, 6, 7] (fun i out tl wr => ∃ (r : Nat) (g : Nat → Int) (L : List Sn) (b : Bool), r ≤ l.length ∧ i = .int .i64 r ∧ tl = .bool b ∧ L ++ runS g (l.drop r) = T ∧ (b || hasT (l.drop r)) = B ∧ L.length ≤ r ∧ RunAt w g out L wr) (fun i _ _ _ => (l.length - intOf i).toNat)
  case atStart => exact ⟨0, h, [], false, by omega, rfl, rfl, by simpa using HT.out.1, by simpa using HT.out.2, by simp, HA.out⟩
  case round =>
    clear HA
    obtain ⟨r, g, L, b, hr, rfl, rfl, h1, h2, h3, hA⟩ := hrel
    have HA := Lib.hid hA
    have HC := Lib.hid (And.intro h1 (And.intro h2 h3))
    clear hA h1 h2 h3
    by_cases hlt : r < l.length
    · have hltI : (r : Int) < (l.length : Int) := by omega
      obtain ⟨c, hc'⟩ := lt_some hlt
      obtain ⟨bb, o, rfl, hrg⟩ := (HL.out.below okA HA.out.2.2).at hc'
      have HI := Lib.hid hc'
      have HD := Lib.hid (dropAt hc')
      obtain ⟨k0, k1, k2, k3⟩ := cellsA hrg
      rcases snd_cases' (snd_mem HK.out hc') with ⟨pt, rfl, p1, p2⟩ | ⟨f, x, rfl, hse⟩ | rfl
      · clear hrg hc' p1 p2
        have c0 : wr.cell? ⟨bb, o + r * 4, none⟩ = some (.int .i64 1) := k0
        have c1 : wr.cell? ⟨bb, o + r * 4 + 1, none⟩ = some (.int .i64 pt) := k1
        clear k0 k1 k2 k3
        go_upto_region 9 with (fail)
        have HA1 := Lib.hid HA.out.drew
        have HS0 := Lib.hid (show RunS w (.slice (some ⟨bb, o, none⟩) l.length cap) l g wr.drew from ⟨HL.out.below okA HA1.out.2.2, HA1.out.1⟩)
        clear c0 c1 HA
        refine wp_region_held_drew (S := RunS w (.slice (some ⟨bb, o, none⟩) l.length cap) l g) (by kernel_rfl) HS0.out (fun hS => ?_)
        clear HS0
        generalize wr.drew = W at *
        have RS := Lib.hid (Blk.new W (sna ⟨pt, g⟩) 32)
        have HA2 := Lib.hid (HA1.out.below (below1 W (.cells (sna ⟨pt, g⟩) 32)))
        have HLt := Lib.hid (show w.heap.size + 1 ≤ (W.alloc (.cells (sna ⟨pt, g⟩) 32)).heap.size from HA2.out.lt)
        refine seqRead 0 (v := _) rfl (by kernel_rfl) (by kernel_rfl) (by kernel_rfl) (fun _ _ _ h => h) rfl (fun w hSw => by go_simp <;> with_reducible rfl) hS ?_
        try simp only [Act.put, List.setIfInBounds_toArray, List.set_cons_zero, List.set_cons_succ]
        refine seqRead 1 (v := _) rfl (by kernel_rfl) (by kernel_rfl) (by kernel_rfl) (fun _ _ _ h => h) rfl (fun w hSw => by go_simp <;> with_reducible rfl) hS ?_
        try simp only [Act.put, List.setIfInBounds_toArray, List.set_cons_zero, List.set_cons_succ]
        refine seqRead 2 (v := _) rfl (by kernel_rfl) (by kernel_rfl) (by kernel_rfl) (fun _ _ _ h => h) rfl (fun w hSw => by go_simp <;> with_reducible rfl) hS ?_
        try simp only [Act.put, List.setIfInBounds_toArray, List.set_cons_zero, List.set_cons_succ]
        refine seqRead 3 (v := _) rfl (by kernel_rfl) (by kernel_rfl) (by kernel_rfl) (fun _ _ _ h => h) rfl (fun w hSw => by go_simp <;> with_reducible rfl) hS ?_
        try simp only [Act.put, List.setIfInBounds_toArray, List.set_cons_zero, List.set_cons_succ]
        refine seqRead 4 (v := _) rfl (by kernel_rfl) (by kernel_rfl) (by kernel_rfl) (fun _ _ _ h => h) rfl (fun w hSw => by go_simp <;> with_reducible rfl) hS ?_
        try simp only [Act.put, List.setIfInBounds_toArray, List.set_cons_zero, List.set_cons_succ]
        refine seqRead 5 (v := _) rfl (by kernel_rfl) (by kernel_rfl) (by kernel_rfl) (fun _ _ _ h => h) rfl (fun w hSw => by have hq := (cellsA (hSw.1.at' HI.out)).2.1; go_simp <;> with_reducible rfl) hS ?_
        try simp only [Act.put, List.setIfInBounds_toArray, List.set_cons_zero, List.set_cons_succ]
        refine seqRead 6 (v := _) rfl (by kernel_rfl) (by kernel_rfl) (by kernel_rfl) (fun _ _ _ h => h) rfl (fun w hSw => execRow0 rfl _ rfl hSw.2 Tryd.underlying25 rfl (by kernel_rfl)) hS ?_
        try simp only [Act.put, List.setIfInBounds_toArray, List.set_cons_zero, List.set_cons_succ]
        refine seqRead 7 (v := _) rfl (by kernel_rfl) (by kernel_rfl) (by kernel_rfl) (fun _ _ _ h => h) rfl (fun w hSw => execBuildS rfl pt g rfl rfl) hS ?_
        try simp only [Act.put, List.setIfInBounds_toArray, List.set_cons_zero, List.set_cons_succ]
        refine seqCall 8 rfl (by kernel_rfl) rfl (fun K hK => ?_)
        refine kbuildOneWp KS okS zS zeroS (.tmp 31) rfl (sna ⟨pt, g⟩) rfl (by decide) (fillS _) ?_
        refine hK.out _ _ (RunS.below (below1 _ _) hS) (fun hS => ?_)
        clear hK K
        try simp only [Act.put, List.setIfInBounds_toArray, List.set_cons_zero, List.set_cons_succ]
        refine seqCall 9 rfl (by kernel_rfl) rfl (fun K hK => ?_)
        refine kappendWp KS okS (.tmp 24) (.tmp 32) rfl (w.heap.size + 1) u6 L [⟨pt, g⟩] rfl HA2.out.2.1 _ rfl (RS.out.klies okS (sna_flat _)) HLt.out (by have := HC.out.2.2; simp; omega) (fun v' w' ho hg => ?_)
        have HA3 := Lib.hid (HA2.out.grown ho hg)
        clear ho hg HA2 HA1 RS HLt
        refine hK.out _ _ (show RunS w (.slice (some ⟨bb, o, none⟩) l.length cap) l g w' from ⟨HL.out.below okA HA3.out.2.2, HA3.out.1⟩) (fun hS => ?_)
        clear hK K
        try simp only [Act.put, List.setIfInBounds_toArray, List.set_cons_zero, List.set_cons_succ]
        refine seqRead 10 (v := _) rfl (by kernel_rfl) (by kernel_rfl) (by kernel_rfl) (fun _ _ _ h => h) rfl (fun w hSw => by go_simp <;> with_reducible rfl) hS ?_
        try simp only [Act.put, List.setIfInBounds_toArray, List.set_cons_zero, List.set_cons_succ]
        refine seqDone (by kernel_rfl) ?_
        obtain ⟨k0, _, _, _⟩ := cellsA ((HL.out.below okA HA3.out.2.2).at' HI.out)
        have c0 : w'.cell? ⟨bb, o + r * 4, none⟩ = some (.int .i64 1) := k0
        clear k0
        go_upto_region 12 with (fail)
        cases b
        · go_wp2_with (fail)
          go_roundw
          case rel =>
            refine ⟨r + 1, g, L ++ [⟨pt, g⟩], false, by omega, by go_num, rfl, ?_, ?_, by have := HC.out.2.2; simp; omega, HA3.out⟩
            · have e := HC.out.1
              rw [HD.out] at e
              simpa [runS, stepS, stepH] using e
            · have e := HC.out.2.1
              rw [HD.out] at e
              simpa [hasT] using e
          case measure => simp [intOf]; omega
        · go_wp2_with (fail)
          go_roundw
          case rel =>
            refine ⟨r + 1, g, L ++ [⟨pt, g⟩], true, by omega, by go_num, rfl, ?_, ?_, by have := HC.out.2.2; simp; omega, HA3.out⟩
            · have e := HC.out.1
              rw [HD.out] at e
              simpa [runS, stepS, stepH] using e
            · have e := HC.out.2.1
              rw [HD.out] at e
              simpa [hasT] using e
          case measure => simp [intOf]; omega
      · obtain ⟨n, rfl, hn, hf⟩ := setE_zero hse
        clear hrg hc' hse hf
        have c0 : wr.cell? ⟨bb, o + r * 4, none⟩ = some (.int .i64 2) := k0
        have c2 : wr.cell? ⟨bb, o + r * 4 + 2, none⟩ = some (.int .i64 n) := k2
        have c3 : wr.cell? ⟨bb, o + r * 4 + 3, none⟩ = some (.int .u64 x) := k3
        clear k0 k1 k2 k3
        go_upto_region 11 with (fail)
        refine regionTail 11 (by kernel_rfl) (by kernel_rfl) (fun W hW => ?_)
        have HA1 := Lib.hid (show RunAt w g u6 L W by rw [hW.out]; exact HA.out.drew)
        have d2 : W.cell? ⟨bb, o + r * 4 + 2, none⟩ = some (.int .i64 n) := by rw [hW.out]; exact c2
        have d3 : W.cell? ⟨bb, o + r * 4 + 3, none⟩ = some (.int .u64 x) := by rw [hW.out]; exact c3
        clear hW c0 c2 c3 HA
        have e1 := cell_row HA1.out.1 hn
        have f1 := frozen_of_row _ w.heap.size n _ _ HA1.out.1
        have hnI : (n : Int) < 12 := by omega
        simp only [List.take_succ_cons, List.take_zero, List.drop_succ_cons, List.drop_zero]
        repeat still_step
        refine wpStill_nil ?_
        go_upto_region 12 with (fail)
        have HA3 := Lib.hid (HA1.out.cset hn x)
        clear HA1 d2 d3 e1 f1
        generalize W.setCell ⟨w.heap.size, n, none⟩ (.int .u64 x) = W3 at *
        obtain ⟨k0, _, _, _⟩ := cellsA ((HL.out.below okA HA3.out.2.2).at' HI.out)
        have c0 : W3.cell? ⟨bb, o + r * 4, none⟩ = some (.int .i64 2) := k0
        clear k0
        cases b
        · go_wp2_with (fail)
          go_roundw
          case rel =>
            refine ⟨r + 1, upd g n x, L, false, by omega, by go_num, rfl, ?_, ?_, by have := HC.out.2.2; simp; omega, HA3.out⟩
            · have e := HC.out.1
              rw [HD.out] at e
              simpa [runS, stepS, stepH] using e
            · have e := HC.out.2.1
              rw [HD.out] at e
              simpa [hasT] using e
          case measure => simp [intOf]; omega
        · go_wp2_with (fail)
          go_roundw
          case rel =>
            refine ⟨r + 1, upd g n x, L, true, by omega, by go_num, rfl, ?_, ?_, by have := HC.out.2.2; simp; omega, HA3.out⟩
            · have e := HC.out.1
              rw [HD.out] at e
              simpa [runS, stepS, stepH] using e
            · have e := HC.out.2.1
              rw [HD.out] at e
              simpa [hasT] using e
          case measure => simp [intOf]; omega
      · clear hrg hc'
        have c0 : wr.cell? ⟨bb, o + r * 4, none⟩ = some (.int .i64 3) := k0
        clear k0 k1 k2 k3
        have HA3 := HA
        clear HA
        go_upto_region 12 with (fail)
        cases b
        · go_wp2_with (fail)
          go_roundw
          case rel =>
            refine ⟨r + 1, g, L, true, by omega, by go_num, rfl, ?_, ?_, by have := HC.out.2.2; simp; omega, HA3.out⟩
            · have e := HC.out.1
              rw [HD.out] at e
              simpa [runS, stepS, stepH] using e
            · have e := HC.out.2.1
              rw [HD.out] at e
              simpa [hasT] using e
          case measure => simp [intOf]; omega
        · go_wp2_with (fail)
          go_roundw
          case rel =>
            refine ⟨r + 1, g, L, true, by omega, by go_num, rfl, ?_, ?_, by have := HC.out.2.2; simp; omega, HA3.out⟩
            · have e := HC.out.1
              rw [HD.out] at e
              simpa [runS, stepS, stepH] using e
            · have e := HC.out.2.1
              rw [HD.out] at e
              simpa [hasT] using e
          case measure => simp [intOf]; omega
    · have hltI : ¬ (r : Int) < (l.length : Int) := by omega
      have e : l.drop r = [] := List.drop_eq_nil_of_le (by omega)
      have HC' := HC.out
      rw [e] at HC'
      have e1 : L = T := by simpa [runS] using HC'.1
      have e2 : b = B := by simpa [hasT] using HC'.2.1
      subst e1 e2
      have HF := Lib.hid (HA.out.2.1.mono (show w.heap.size ≤ w.heap.size + 1 by omega))
      have HB := Lib.hid HA.out.2.2
      obtain ⟨p', cap', rfl⟩ := HA.out.2.1.form
      clear HC' e HA HC
      go_wp2
      go_ret2
      exact ⟨_, rfl, HF.out, HB.out⟩
theorem rrun_any (v : Value) (l : List Ac) (h : Nat → Int) (hlen : l.length ≤ 140737488355328) (hw : WfAL l) (w : World) (hl : KLies KA v l w) :
    Calls Tryd.prog 9 #[v, .agg (hc h)] w (RunRet w (runV l h) (runB l)) := by
  unfold runV runB
  cases hs : sndAL l
  · exact rrun_none v l h hlen hw hs w hl
  · exact rrun_yes v l h _ _ rfl rfl hlen hw hs w hl
end Go.Proofs.YtpcacgfhjheiiaaDoor
