/-
  The program's writer of numbers: a box that holds bytes, and what a method of it leaves.
-/
import Derived.Test.YtndgbgolmpoepaaDoorPackRule
import Derived.Test.YtndgbgolmpoepaaDoorKArg
import Derived.Test.YtndgbgolmpoepaaDoorPackCodM
namespace Go.Proofs.YtndgbgolmpoepaaDoor
set_option maxRecDepth 20000
open Go.RowKit

/-- what a writer's method leaves of all other memory: a block that is neither the writer's nor bytes is as it was -/
structure WStep (b : Nat) (W W' : World) : Prop where
  below : Below b W W'
  keep : ∀ (g : Nat) (cs : Array Value) (T : TypeId) (fr : Nat × Nat), W.heap[g]? = some (.cells cs T fr) → g ≠ b → T ≠ 5 → W'.heap[g]? = W.heap[g]?
/-- a writer that has bytes -/
def WrS (w0 : World) (b : Nat) (l : List Int) (W : World) : Prop := ∃ v, Blk b #[v] 55 W ∧ KOwns KB (b + 1) v l W ∧ Below w0.heap.size w0 W ∧ w0.heap.size ≤ b
def WrRet (w0 : World) (b : Nat) (l X : List Int) (w : World) (e : Ending) (w' : World) : Prop := e = .returned (.tuple #[]) ∧ WrS w0 b (l ++ X) w' ∧ WStep b w w'
section
variable {w0 W W' W'' : World} {b g : Nat} {l : List Int} {cs : Array Value} {T : TypeId}
theorem WStep.refl (b : Nat) (W : World) : WStep b W W := ⟨Below.refl _ _, fun _ _ _ _ _ _ _ => rfl⟩
theorem WStep.trans (h : WStep b W W') (k : WStep b W' W'') : WStep b W W'' := ⟨h.below.trans k.below, fun g cs T fr hg hne hT => (k.keep g cs T fr ((h.keep g cs T fr hg hne hT).trans hg) hne hT).trans (h.keep g cs T fr hg hne hT)⟩
theorem WStep.of (hb : Below W.heap.size W W') (h : b ≤ W.heap.size) : WStep b W W' := ⟨hb.mono h, fun g _ _ _ hg _ _ => hb.block g (Array.getElem?_eq_some_iff.1 hg).1⟩
theorem WStep.blk (h : WStep b W W') (hB : Blk g cs T W) (hne : g ≠ b) (hT : T ≠ 5) : Blk g cs T W' := (h.keep g cs T _ hB hne hT).trans hB
theorem WrS.lt (h : WrS w0 b l W) : b < W.heap.size := by obtain ⟨v, h1, _⟩ := h; exact h1.lt
theorem WrS.kept (h : WrS w0 b l W) : Below w0.heap.size w0 W := by obtain ⟨v, _, _, h3, _⟩ := h; exact h3
theorem WrS.ge (h : WrS w0 b l W) : w0.heap.size ≤ b := by obtain ⟨v, _, _, _, h4⟩ := h; exact h4
theorem WrS.below (h : WrS w0 b l W) (hb : Below W.heap.size W W') : WrS w0 b l W' := by
  have hl := h.lt
  obtain ⟨v, h1, h2, h3, h4⟩ := h
  exact ⟨v, h1.below hb, h2.below hb, h3.trans (hb.mono (by omega)), h4⟩
theorem WrS.alloc (h : WrS w0 b l W) (o : Obj) : WrS w0 b l (W.alloc o) := h.below (below1 _ _)
theorem WStep.alloc (h : WrS w0 b l W) (o : Obj) : WStep b W (W.alloc o) := .of (below1 _ _) (by have := h.lt; omega)
/-- after the first box of a method -/
theorem WrRet.of {X : List Int} {e : Ending} (h : WStep b W W') (hr : WrRet w0 b l X W' e W'') : WrRet w0 b l X W e W'' := ⟨hr.1, hr.2.1, h.trans hr.2.2⟩
end
theorem zeroB : ((Tryd.prog.info? KB.T).bind (·.zero)).map (·.cells) = some #[Value.int .u8 0] := by kernel_rfl
theorem fillB (x : Int) : Instr.fill (fun i' => some (i' * 1, 1)) ((Array.range (1 * 1)).map ((#[Value.int .u8 0] : Array Value)[· % (#[Value.int .u8 0] : Array Value).size]!)) [(0, .int .u8 x)] = some #[.int .u8 x] := by kernel_rfl
theorem infoBs : (Tryd.prog.info? 36).map (·.size) = some 1 := by kernel_rfl
theorem sh_succ (n : Int) (t : Nat) : n / 2 ^ (8 * (t + 1)) = n / 2 ^ (8 * t) / 256 := by
  rw [Int.ediv_ediv_of_nonneg (by exact_mod_cast Nat.zero_le _), show 8 * (t + 1) = 8 * t + 8 by omega, Int.pow_add]
  rfl
theorem byte_of (x : Int) : IntKind.u8.wrap x = x % 256 := by rw [IntKind.wrap_u8]
/-- an operation that only reads, as an act -/
theorem readWp {o : Oper} {a : Act} {w : World} {Kt : Act → World → Prop} {Q : Exit → Act → World → Prop} (v : Value) (hv : (execOp a.eval o).run Tryd.prog w = .ok (.value v) w) (h : Kt (a.put o.dst v) w) : o.wp Tryd.prog a w Kt Q := by
  unfold Oper.wp
  rw [hv]
  exact h
theorem kbuildVWp {α : Type} (K : Kd α) (ok : K.Ok) (zs : Array Value) (hzs : ((Tryd.prog.info? K.T).bind (·.zero)).map (·.cells) = some zs) {o : Oper} {a : Act} {w : World} {Kt : Act → World → Prop} {Q : Exit → Act → World → Prop} (m : Nat)
    (parts : Array (Nat × Operand)) (ho : o.op = .buildSlice K.S m parts) (vs : List (Nat × Value)) (hv : (parts.map fun (p : Nat × Operand) => (p.1, a.eval p.2)).toList = vs) (cs : Array Value) (hsm : m * K.n ≤ 1000) (hm : 0 < m)
    (hf : Instr.fill (fun i' => some (i' * K.n, K.n)) ((Array.range (m * K.n)).map (zs[· % zs.size]!)) vs = some cs)
    (h : Kt (a.put o.dst (.slice (some ⟨w.heap.size, 0, none⟩) m m)) (w.alloc (.cells cs K.T))) : o.wp Tryd.prog a w Kt Q := by
  obtain ⟨i, z, hi, hz, hs, hb, hc⟩ := ok.info
  have hzc := zeroOf hzs hi hz
  refine wp_buildSlice K.S K.T m _ ho cs i z ok.under hi hz ?_ ?_ ?_ h
  · rw [hs]; omega
  · rw [hs]
    have := ok.pos
    have : 0 < m * K.n := Nat.mul_pos hm this
    omega
  · rw [hs, hzc]
    exact (congrArg (Instr.fill (fun i' => some (i' * K.n, K.n)) ((Array.range (m * K.n)).map (zs[· % zs.size]!))) hv).trans hf
theorem kbuildByteWp {o : Oper} {a : Act} {w : World} {Kt : Act → World → Prop} {Q : Exit → Act → World → Prop} (y : Operand) (ho : o.op = .buildSlice KB.S 1 #[(0, y)]) (x : Int) (hy : a.eval y = .int .u8 x)
    (h : Kt (a.put o.dst (.slice (some ⟨w.heap.size, 0, none⟩) 1 1)) (w.alloc (.cells #[.int .u8 x] KB.T))) : o.wp Tryd.prog a w Kt Q :=
  kbuildVWp KB okB #[.int .u8 0] zeroB 1 _ ho [(0, .int .u8 x)] (by simp [hy]) #[.int .u8 x] (by decide) (by decide) (fillB x) h
/-- a store of one cell in the middle of a row, as an act -/
theorem storeCellWp {o : Oper} {a : Act} {w : World} {Kt : Act → World → Prop} {Q : Exit → Act → World → Prop} (ty : TypeId) (x y : Operand) (ho : o.op = .store ty x y)
    (b k : Nat) (v : Value) (hx : a.eval x = .pointer (some ⟨b, k, none⟩)) (hy : a.eval y = v) (h1 : v.oneCell' = true) (ht : w.there b k 1) (hi : (Tryd.prog.info? ty).map (·.size) = some 1)
    (h : Kt (a.put o.dst undef) (w.setCell ⟨b, k, none⟩ v)) : o.wp Tryd.prog a w Kt Q := by
  have hc : v.cells = #[v] := by cases v <;> first | rfl | cases h1
  have hq := run_storeCells_cells (P := Tryd.prog) b k [v] 0 w (fun j hj => by simpa using (ht j (by simpa using hj)).1) (fun j hj => by simpa using (ht j (by simpa using hj)).2) (fun u hu => by simp at hu; subst hu; exact h1)
  have hr : (storeVar ty ⟨b, k, none⟩ v).run Tryd.prog w = .ok () (w.setCell ⟨b, k, none⟩ v) := by
    cases hq' : Tryd.prog.info? ty with
    | none => simp [hq'] at hi
    | some i =>
      have hs : i.size = 1 := by simpa [hq'] using hi
      simp only [Nat.add_zero] at hq
      simp [storeVar, sizeOf, typeInfo, hq', hc, hs]
      exact hq
  unfold Oper.wp execOp
  simp only [ho, hx, hy, Instr.storeAt, Instr.sureAddr, Sem.run_bind, Sem.run_pure, Result.andThen_ok, hr]
  exact h
theorem KOwns.one1 {α : Type} {K : Kd α} {base : Nat} {v : Value} {l : List α} {W : World} (h : KOwns K base v l W) : v.oneCell' = true := by
  obtain ⟨p, c, rfl⟩ := h.form
  rfl
/-- one byte more -/
theorem WrS.push {w0 W W1 : World} {b : Nat} {v v' : Value} {l l' : List Int} (hB : Blk b #[v] 55 W) (hO : KOwns KB (b + 1) v l W) (hk : Below w0.heap.size w0 W) (hge : w0.heap.size ≤ b) (hO' : KOwns KB (b + 1) v' l' W1) (hg : W.grownBy W1 v.ownBlock) :
    WrS w0 b l' (W1.setCell ⟨b, 0, none⟩ v') ∧ WStep b W (W1.setCell ⟨b, 0, none⟩ v') := by
  have hlt := hB.lt
  have hB1 : Blk b #[v] 55 W1 := (hg.block b hlt fun e => by have := hO.ge b e.symm; omega).trans hB
  have hbel : Below b W W1 := Below.grown (Below.refl _ _) hg (by omega) fun k e => by have := hO.ge k e; omega
  refine ⟨⟨v', ?_, KOwns.other hO' fun g hg' _ => heap_setCell_other _ _ _ _ (by show g ≠ b; omega), ?_, hge⟩, ⟨hbel.setCell (Nat.le_refl _) _, fun g cs T fr hcs hne hT => ?_⟩⟩
  · have := hB1.one (k := 0) v'
    simpa using this
  · exact (hk.trans (hbel.mono hge)).setCell (by show w0.heap.size ≤ b; exact hge) _
  · have hg1 : W1.heap[g]? = W.heap[g]? := by
      refine hg.block g (Array.getElem?_eq_some_iff.1 hcs).1 fun e => ?_
      rcases hO.2 with ⟨e1, _⟩ | ⟨g', cap', cur', e1, _, e3, _⟩
      · rw [e1] at e; cases e
      · rw [e1] at e
        injection e with e
        have e' : g = g' := e
        subst e'
        rw [hcs] at e3
        injection e3 with e3
        injection e3 with _ e3 _
        exact hT e3
    exact (heap_setCell_other _ _ _ _ (by show g ≠ b; exact hne)).trans hg1
set_option maxHeartbeats 2000000 in
theorem word_any (w0 : World) (b : Nat) (l : List Int) (n : Int) (h0 : 0 ≤ n) (s : Nat) (hs8 : s ≤ 8) (hlen : l.length + s ≤ 1000000000) (w : World) (h : WrS w0 b l w) :
    Calls Tryd.prog 41 #[.pointer (some ⟨b, 0, none⟩), .int .u64 n, .int .i64 (s : Int)] w (WrRet w0 b l (numB s n) w) := by
  have HS := Lib.hid h
  have HN := Lib.hid h0
  clear h h0
  go_enter Tryd.func41, Tryd.ntmps41
  go_wp2_with fail
  go_loopg [6] s (fun k at_ wr => ∃ r : Nat, r + k = s ∧ at_ = .int .i64 ((k : Int) - 1) ∧ WrS w0 b (l ++ numB r (n / 2 ^ (8 * k))) wr ∧ WStep b w wr)
  case atStart => exact ⟨0, by omega, by go_num, by show WrS w0 b (l ++ []) w; rw [List.append_nil]; exact HS.out, WStep.refl _ _⟩
  case round =>
    clear HS
    obtain ⟨r, hr, rfl, hs, ht⟩ := hrel
    have HS := Lib.hid hs
    have HT := Lib.hid ht
    clear hs ht
    by_cases hlt : 0 < gk
    · obtain ⟨t, ht1⟩ : ∃ t : Nat, t + 1 = gk := ⟨gk - 1, by omega⟩
      subst ht1
      have e : ((t + 1 : Nat) : Int) - 1 = (t : Int) := by omega
      rw [e] at *
      have ht8 : (t : Int) < 8 := by omega
      have ht0 : (0 : Int) ≤ (t : Int) := by omega
      have hw8 : IntKind.i64.wrap (8 * (t : Int)) = 8 * (t : Int) := by rw [IntKind.wrap_i64]; omega
      have hs0 : (0 : Int) ≤ 8 * (t : Int) := by omega
      have hs1 : 8 * (t : Int) ≤ 64 := by omega
      obtain ⟨v, hB, hO, _⟩ := HS.out
      have G0 := Lib.hid HS.out.ge
      obtain ⟨x, hx⟩ : ∃ x, x = n / 2 ^ (8 * t) % 256 := ⟨_, rfl⟩
      have HXX := Lib.hid hx
      have HX := Lib.hid (show IntKind.u8.wrap (n / 2 ^ (8 * (t : Int)).toNat) = x by rw [byte_of, hx, show (8 * (t : Int)).toNat = 8 * t by omega])
      clear hx
      have R0 := Lib.hid hB
      have O0 := Lib.hid hO
      have K0 := Lib.hid HS.out.kept
      clear hB hO HS
      go_upto_region 3 with fail
      have R1 := Lib.hid (show Blk b #[v] 55 wr.drew from R0.out.drew)
      have O1 := Lib.hid (O0.out.below (Below.refl _ wr).drew)
      have K1 := Lib.hid K0.out.drew
      have T1 := Lib.hid (HT.out.trans (WStep.of (Below.refl _ wr).drew (Nat.le_of_lt R0.out.lt)))
      refine wp_region_held_drew (S := fun _ => True) (by kernel_rfl) trivial (fun hS => ?_)
      clear R0 O0 K0 HT
      generalize wr.drew = W at *
      refine seqRead 0 (v := _) rfl (by kernel_rfl) (by kernel_rfl) (by kernel_rfl) (fun _ _ _ h => h) rfl (fun w hSw => by go_simp <;> with_reducible rfl) hS ?_
      try simp only [Act.put, List.setIfInBounds_toArray, List.set_cons_zero, List.set_cons_succ]
      refine seqRead 1 (v := _) rfl (by kernel_rfl) (by kernel_rfl) (by kernel_rfl) (fun _ _ _ h => h) rfl (fun w hSw => by go_simp <;> with_reducible rfl) hS ?_
      try simp only [Act.put, List.setIfInBounds_toArray, List.set_cons_zero, List.set_cons_succ]
      refine seqRead 2 (v := _) rfl (by kernel_rfl) (by kernel_rfl) (by kernel_rfl) (fun _ _ _ h => h) rfl (fun w hSw => by go_simp <;> with_reducible rfl) hS ?_
      try simp only [Act.put, List.setIfInBounds_toArray, List.set_cons_zero, List.set_cons_succ]
      refine seqRead 3 (v := _) rfl (by kernel_rfl) (by kernel_rfl) (by kernel_rfl) (fun _ _ _ h => h) rfl (fun w hSw => by go_simp <;> with_reducible rfl) hS ?_
      try simp only [Act.put, List.setIfInBounds_toArray, List.set_cons_zero, List.set_cons_succ]
      refine seqRead 5 (v := _) rfl (by kernel_rfl) (by kernel_rfl) (by kernel_rfl) (fun _ _ _ h => h) rfl (fun w hSw => by go_simp <;> with_reducible rfl) hS ?_
      try simp only [Act.put, List.setIfInBounds_toArray, List.set_cons_zero, List.set_cons_succ]
      refine seqRead 6 (v := _) rfl (by kernel_rfl) (by kernel_rfl) (by kernel_rfl) (fun _ _ _ h => h) rfl (fun w hSw => by go_simp <;> with_reducible rfl) hS ?_
      try simp only [Act.put, List.setIfInBounds_toArray, List.set_cons_zero, List.set_cons_succ]
      refine seqRead 7 (v := _) rfl (by kernel_rfl) (by kernel_rfl) (by kernel_rfl) (fun _ _ _ h => h) rfl (fun w hSw => by go_simp <;> with_reducible rfl) hS ?_
      try simp only [Act.put, List.setIfInBounds_toArray, List.set_cons_zero, List.set_cons_succ]
      refine seqRead 8 (v := _) rfl (by kernel_rfl) (by kernel_rfl) (by kernel_rfl) (fun _ _ _ h => h) rfl (fun w hSw => by go_simp <;> with_reducible rfl) hS ?_
      try simp only [Act.put, List.setIfInBounds_toArray, List.set_cons_zero, List.set_cons_succ]
      refine seqRead 9 (v := _) rfl (by kernel_rfl) (by kernel_rfl) (by kernel_rfl) (fun _ _ _ h => h) rfl (fun w hSw => by go_simp <;> with_reducible rfl) hS ?_
      try simp only [Act.put, List.setIfInBounds_toArray, List.set_cons_zero, List.set_cons_succ]
      refine seqActs2 4 10 rfl rfl (by kernel_rfl) rfl (fun K hK => ?_) rfl (fun K hK => ?_)
      · have c0 : W.cell? ⟨b, 0, none⟩ = some v := (cell_of_row _ b 0 _ _ _ R1.out).trans rfl
        refine readWp v (by go_simp <;> with_reducible rfl) ?_
        refine hK.out _ _ trivial (fun hS => ?_)
        clear hK K
        try simp only [Act.put, List.setIfInBounds_toArray, List.set_cons_zero, List.set_cons_succ]
        refine seqCall 10 rfl (by kernel_rfl) rfl (fun K hK => ?_)
        refine kbuildByteWp (.tmp 22) rfl x (congrArg (Value.int IntKind.u8) HX.out) ?_
        have R2 := Lib.hid (R1.out.old (.cells #[Value.int .u8 x] KB.T))
        have O2 := Lib.hid (O1.out.below (below1 W (.cells #[Value.int .u8 x] KB.T)))
        have K2 := Lib.hid (K1.out.trans ((below1 W (.cells #[Value.int .u8 x] KB.T)).mono K1.out.size))
        have T2 := Lib.hid (T1.out.trans (WStep.of (below1 W (.cells #[Value.int .u8 x] KB.T)) (Nat.le_of_lt R1.out.lt)))
        have HK2 := Lib.hid (Blk.klies (K := KB) (l := [x]) (Blk.new W #[Value.int .u8 x] KB.T) okB rfl)
        generalize hW2 : W.alloc (.cells #[Value.int .u8 x] KB.T) = W2 at *
        clear hW2
        refine hK.out _ _ trivial (fun hS => ?_)
        clear hK K
        try simp only [Act.put, List.setIfInBounds_toArray, List.set_cons_zero, List.set_cons_succ]
        refine seqCall 11 rfl (by kernel_rfl) rfl (fun K hK => ?_)
        refine kappendWpB KB okB (.tmp 17) (.tmp 23) rfl (b + 1) v (l ++ numB r (n / 2 ^ (8 * (t + 1)))) [x] rfl O2.out _ rfl HK2.out (Nat.succ_le_of_lt R2.out.lt) (by rw [List.length_append, numB_len]; show (l.length + r + 1) * 1 ≤ _; omega) (fun v' W3 ho hg => ?_)
        have HP := Lib.hid (WrS.push R2.out O2.out K2.out G0.out ho hg)
        have R3 := Lib.hid (show b < W3.heap.size by have := hg.size; have := R2.out.lt; omega)
        have E3 := Lib.hid ho.one1
        have B3 := Lib.hid (Blk.grown R2.out O2.out (Nat.lt_succ_self b) hg)
        clear ho hg
        refine hK.out _ _ trivial (fun hS => ?_)
        clear hK K
        try simp only [Act.put, List.setIfInBounds_toArray, List.set_cons_zero, List.set_cons_succ]
        refine seqRead 12 (v := _) rfl (by kernel_rfl) (by kernel_rfl) (by kernel_rfl) (fun _ _ _ h => h) rfl (fun w hSw => by go_simp <;> with_reducible rfl) hS ?_
        try simp only [Act.put, List.setIfInBounds_toArray, List.set_cons_zero, List.set_cons_succ]
        refine seqRead 13 (v := _) rfl (by kernel_rfl) (by kernel_rfl) (by kernel_rfl) (fun _ _ _ h => h) rfl (fun w hSw => by go_simp <;> with_reducible rfl) hS ?_
        try simp only [Act.put, List.setIfInBounds_toArray, List.set_cons_zero, List.set_cons_succ]
        refine seqCall 14 rfl (by kernel_rfl) rfl (fun K hK => ?_)
        refine storeCellWp 36 (.tmp 26) (.tmp 24) rfl b 0 v' rfl rfl E3.out (B3.out.there (Nat.le_refl _)) infoBs ?_
        refine hK.out _ _ trivial (fun hS => ?_)
        clear hK K
        try simp only [Act.put]
        refine seqDone (by kernel_rfl) ?_
        obtain ⟨hp1, hp2⟩ := HP.out
        have HS4 := Lib.hid hp1
        have T4 := Lib.hid (T2.out.trans hp2)
        clear hp1 hp2 HP B3 E3 R3 hS
        generalize W3.setCell ⟨b, 0, none⟩ v' = W4 at *
        go_wp2_with fail
        go_roundg t
        case measure => omega
        case rel => exact ⟨r + 1, by omega, by go_num, by rw [show numB (r + 1) (n / 2 ^ (8 * t)) = numB r (n / 2 ^ (8 * t) / 256) ++ [n / 2 ^ (8 * t) % 256] from rfl, ← sh_succ, ← HXX.out, ← List.append_assoc]; exact HS4.out, T4.out⟩
      · refine kbuildByteWp (.tmp 22) rfl x (congrArg (Value.int IntKind.u8) HX.out) ?_
        have R2 := Lib.hid (R1.out.old (.cells #[Value.int .u8 x] KB.T))
        have O2 := Lib.hid (O1.out.below (below1 W (.cells #[Value.int .u8 x] KB.T)))
        have K2 := Lib.hid (K1.out.trans ((below1 W (.cells #[Value.int .u8 x] KB.T)).mono K1.out.size))
        have T2 := Lib.hid (T1.out.trans (WStep.of (below1 W (.cells #[Value.int .u8 x] KB.T)) (Nat.le_of_lt R1.out.lt)))
        have HK2 := Lib.hid (Blk.klies (K := KB) (l := [x]) (Blk.new W #[Value.int .u8 x] KB.T) okB rfl)
        generalize hW2 : W.alloc (.cells #[Value.int .u8 x] KB.T) = W2 at *
        clear hW2
        refine hK.out _ _ trivial (fun hS => ?_)
        clear hK K
        try simp only [Act.put, List.setIfInBounds_toArray, List.set_cons_zero, List.set_cons_succ]
        refine seqCall 4 rfl (by kernel_rfl) rfl (fun K hK => ?_)
        have c0 : W2.cell? ⟨b, 0, none⟩ = some v := (cell_of_row _ b 0 _ _ _ R2.out).trans rfl
        refine readWp v (by go_simp <;> with_reducible rfl) ?_
        refine hK.out _ _ trivial (fun hS => ?_)
        clear hK K
        try simp only [Act.put, List.setIfInBounds_toArray, List.set_cons_zero, List.set_cons_succ]
        refine seqCall 11 rfl (by kernel_rfl) rfl (fun K hK => ?_)
        refine kappendWpB KB okB (.tmp 17) (.tmp 23) rfl (b + 1) v (l ++ numB r (n / 2 ^ (8 * (t + 1)))) [x] rfl O2.out _ rfl HK2.out (Nat.succ_le_of_lt R2.out.lt) (by rw [List.length_append, numB_len]; show (l.length + r + 1) * 1 ≤ _; omega) (fun v' W3 ho hg => ?_)
        have HP := Lib.hid (WrS.push R2.out O2.out K2.out G0.out ho hg)
        have R3 := Lib.hid (show b < W3.heap.size by have := hg.size; have := R2.out.lt; omega)
        have E3 := Lib.hid ho.one1
        have B3 := Lib.hid (Blk.grown R2.out O2.out (Nat.lt_succ_self b) hg)
        clear ho hg
        refine hK.out _ _ trivial (fun hS => ?_)
        clear hK K
        try simp only [Act.put, List.setIfInBounds_toArray, List.set_cons_zero, List.set_cons_succ]
        refine seqRead 12 (v := _) rfl (by kernel_rfl) (by kernel_rfl) (by kernel_rfl) (fun _ _ _ h => h) rfl (fun w hSw => by go_simp <;> with_reducible rfl) hS ?_
        try simp only [Act.put, List.setIfInBounds_toArray, List.set_cons_zero, List.set_cons_succ]
        refine seqRead 13 (v := _) rfl (by kernel_rfl) (by kernel_rfl) (by kernel_rfl) (fun _ _ _ h => h) rfl (fun w hSw => by go_simp <;> with_reducible rfl) hS ?_
        try simp only [Act.put, List.setIfInBounds_toArray, List.set_cons_zero, List.set_cons_succ]
        refine seqCall 14 rfl (by kernel_rfl) rfl (fun K hK => ?_)
        refine storeCellWp 36 (.tmp 26) (.tmp 24) rfl b 0 v' rfl rfl E3.out (B3.out.there (Nat.le_refl _)) infoBs ?_
        refine hK.out _ _ trivial (fun hS => ?_)
        clear hK K
        try simp only [Act.put]
        refine seqDone (by kernel_rfl) ?_
        obtain ⟨hp1, hp2⟩ := HP.out
        have HS4 := Lib.hid hp1
        have T4 := Lib.hid (T2.out.trans hp2)
        clear hp1 hp2 HP B3 E3 R3 hS
        generalize W3.setCell ⟨b, 0, none⟩ v' = W4 at *
        go_wp2_with fail
        go_roundg t
        case measure => omega
        case rel => exact ⟨r + 1, by omega, by go_num, by rw [show numB (r + 1) (n / 2 ^ (8 * t)) = numB r (n / 2 ^ (8 * t) / 256) ++ [n / 2 ^ (8 * t) % 256] from rfl, ← sh_succ, ← HXX.out, ← List.append_assoc]; exact HS4.out, T4.out⟩
    · obtain rfl : gk = 0 := by omega
      go_wp2_with fail
      go_end0
      refine ⟨rfl, ?_, HT.out⟩
      have := HS.out
      simp only [Nat.mul_zero, Int.pow_zero, Int.ediv_one] at this
      rw [show r = s by omega] at this
      exact this
end Go.Proofs.YtndgbgolmpoepaaDoor
