/-
  The walk of the law ActPlain.
-/
import Derived.Test.YtpcacgfhjheiiaaDoorActRunsW
import Derived.Test.YtpcacgfhjheiiaaDoorKArg
namespace Go.Proofs.YtpcacgfhjheiiaaDoor
open Go.RowKit

/-- the port that a byte tells -/
def pv (n : Int) : Int := 1 + n % 16
theorem pv_in (n : Int) : 1 ≤ pv n ∧ pv n ≤ 16 := by unfold pv; omega
theorem pv_fin : ∀ m : Fin 256, (pv ((m : Nat) : Int) != IntKind.i64.wrap (1 + IntKind.i64.wrap (((m : Nat) : Int).tmod 16))) = false := by decide +kernel
theorem pv_same (c : Int) (h0 : 0 ≤ c) (h1 : c < 256) : (pv c != IntKind.i64.wrap (1 + IntKind.i64.wrap (c.tmod 16))) = false := by
  obtain ⟨m, rfl⟩ : ∃ m : Nat, c = m := ⟨c.toNat, by omega⟩
  exact pv_fin ⟨m, by omega⟩
theorem builtA1 (p : Int) : Tryd.prog.built 38 [(0, .int .i64 1), (1, .int .i64 p)] = some (aca ⟨1, p, 0, 0⟩) := by kernel_rfl
/-- An action that sends, put together. -/
theorem buildA1 {ops : Array Oper} {rest : List Oper} {o : Oper} {a : Act} {w : World} {Q : Exit → Act → World → Prop} (hg : o.guard = none) (x : Operand) (ho : o.op = .build 38 #[(0, .const (.int .i64 1)), (1, x)]) (p : Int)
    (hx : a.eval x = .int .i64 p) (h : wpList Tryd.prog ops Q rest (a.put o.dst (.agg (aca ⟨1, p, 0, 0⟩))) w) : wpList Tryd.prog ops Q (o :: rest) a w := by
  have e : Tryd.prog.built 38 ((#[(0, .const (.int .i64 1)), (1, x)] : Array (Nat × Operand)).map fun (q : Nat × Operand) => (q.1, a.eval q.2)).toList = some (aca ⟨1, p, 0, 0⟩) := by
    simp only [List.map_toArray, List.map_cons, List.map_nil, hx]
    exact builtA1 p
  refine wpList_build hg _ _ ho (by rw [e]; rfl) ?_
  rw [e]
  exact h
theorem takeAt {α : Type} {l : List α} {r : Nat} {c : α} (h : l[r]? = some c) : l.take (r + 1) = l.take r ++ [c] := by
  rw [List.take_add_one, h]; rfl
/-- the actions that send out of the ports -/
def plA (ps : List Int) : List Ac := ps.map fun n => ⟨1, pv n, 0, 0⟩
def plS (h : Nat → Int) (ps : List Int) : List Sn := ps.map fun n => ⟨pv n, h⟩
theorem plA_at {ps : List Int} {r : Nat} {c : Int} (h : ps[r]? = some c) : (plA ps)[r]? = some ⟨1, pv c, 0, 0⟩ := by simp [plA, h]
theorem plA_all (ps : List Int) : (plA ps).all sndA = true := by
  rw [List.all_eq_true]
  intro a ha
  obtain ⟨n, _, rfl⟩ := List.mem_map.1 ha
  obtain ⟨h1, h2⟩ := pv_in n
  exact a1_ok h1 h2
theorem plA_run (h : Nat → Int) (t : List Ac) : ∀ ps : List Int, runS h (plA ps ++ t) = plS h ps ++ runS h t
  | [] => rfl
  | n :: ps => by
    show stepS h ⟨1, pv n, 0, 0⟩ ++ runS (stepH h ⟨1, pv n, 0, 0⟩) (plA ps ++ t) = ⟨pv n, h⟩ :: (plS h ps ++ runS h t)
    have e : stepH h ⟨1, pv n, 0, 0⟩ = h := rfl
    rw [e, plA_run h t ps]
    rfl
theorem plA_has (ps : List Int) : hasT (plA ps) = false := by
  unfold hasT
  rw [List.any_eq_false]
  intro a ha
  obtain ⟨n, _, rfl⟩ := List.mem_map.1 ha
  simp
/-- all the actions of the law -/
def plL (ps : List Int) (tells : Bool) : List Ac := plA ps ++ if tells then [⟨3, 0, 0, 0⟩] else []
theorem plL_snd (ps : List Int) (tells : Bool) (h : ps.length ≤ 7) : sndAL (plL ps tells) = true := by
  unfold sndAL plL
  rw [List.all_append, plA_all]
  cases tells
  · simp [plA]; omega
  · simp [plA, a3_ok]; omega
theorem plL_run (ps : List Int) (tells : Bool) (h : Nat → Int) (hl : ps.length ≤ 7) : runV (plL ps tells) h = plS h ps := by
  unfold runV
  rw [if_pos (plL_snd ps tells hl), plL, plA_run]
  cases tells
  · simp [runS]
  · simp [runS, stepS]
theorem plL_has (ps : List Int) (tells : Bool) (hl : ps.length ≤ 7) : runB (plL ps tells) = tells := by
  unfold runB
  rw [plL_snd ps tells hl, plL]
  have : ∀ t, hasT (plA ps ++ t) = hasT t := fun t => by
    have e := plA_has ps
    unfold hasT at *
    rw [List.any_append, e, Bool.false_or]
  rw [this]
  cases tells <;> rfl
theorem plL_wf (ps : List Int) (tells : Bool) : WfAL (plL ps tells) := by
  intro a ha
  unfold plL at ha
  rcases List.mem_append.1 ha with h | h
  · obtain ⟨n, _, rfl⟩ := List.mem_map.1 h
    exact ⟨Int.le_refl 0, by show (0 : Int) < 18446744073709551616; decide⟩
  · cases tells
    · cases h
    · simp only [if_true, List.mem_cons, List.not_mem_nil, or_false] at h
      subst h
      exact ⟨by decide, by decide⟩
/-- what the law has in memory -/
def P1 (w0 : World) (h : Nat → Int) (v : Value) (l : List Ac) (W : World) : Prop := Blk w0.heap.size (hc h) 25 W ∧ KOwns KA (w0.heap.size + 1) v l W ∧ Below w0.heap.size w0 W
section
variable {w0 W W' : World} {h : Nat → Int} {v : Value} {l : List Ac}
theorem P1.below (hb : Below W.heap.size W W') (s : P1 w0 h v l W) : P1 w0 h v l W' := ⟨s.1.below hb, s.2.1.below hb, s.2.2.trans (hb.mono s.2.2.size)⟩
theorem P1.grown {v' : Value} {l' : List Ac} (s : P1 w0 h v l W) (h' : KOwns KA (w0.heap.size + 1) v' l' W') (hg : W.grownBy W' v.ownBlock) : P1 w0 h v' l' W' :=
  ⟨s.1.grown s.2.1 (by omega) hg, h', kbelowOwn s.2.2 s.2.1 (by omega) hg⟩
end
def P2 (w0 : World) (vp : Value) (ps : List Int) (vx : Value) (X : List Sn) (h : Nat → Int) (W : World) : Prop := KLies KB vp ps W ∧ KLies KS vx X W ∧ Blk w0.heap.size (hc h) 25 W ∧ Below w0.heap.size w0 W
theorem P2.below {w0 W W' : World} {vp : Value} {ps : List Int} {vx : Value} {X : List Sn} {h : Nat → Int} (hb : Below W.heap.size W W') (s : P2 w0 vp ps vx X h W) : P2 w0 vp ps vx X h W' := ⟨s.1.below okB hb, s.2.1.below okS hb, s.2.2.1.below hb, s.2.2.2.trans (hb.mono s.2.2.2.size)⟩
theorem byteAt {W : World} {b o r : Nat} {c : Int} (h : W.rangeAt b (o + r * 1) (KB.cells c)) : W.cell? ⟨b, o + r * 1, none⟩ = some (.int .u8 c) := h 0 _ rfl
theorem byteAt' {W : World} {b o r : Nat} {c : Int} (h : W.rangeAt b (o + r * 1) (KB.cells c)) : W.cell? ⟨b, o + r, none⟩ = some (.int .u8 c) := by have := byteAt h; rwa [Nat.mul_one] at this
theorem eq_len' {a b : Nat} (h : a = b) : ((a : Int) != (b : Int)) = false := by simp; omega
theorem aca_flat (s : Ac) : (aca s).toList = KA.flat [s] := rfl
set_option maxHeartbeats 1000000 in
set_option maxRecDepth 100000 in
theorem actPlain_many (p : Option Addr) (cp n : Nat) (tells : Bool) (h : Nat → Int) (w0 : World) (ht : Tab w0) (hz : 0 < w0.heap.size) (hn : ¬ n ≤ 7) :
    Calls Tryd.prog 6 #[.slice p n cp, .bool tells, .agg (hc h)] w0 fun e w' => e = .returned (.bool true) ∧ Below w0.heap.size w0 w' := by
  have hE := (Env.start ht hz).alloc (.cells (hc h) 25)
  have HA := Lib.hid (aanswers _ hE.tab hE.lt)
  have HE := Lib.hid hE
  have hI : (7 : Int) < (n : Int) := by omega
  clear ht hE hn
  go_enter Tryd.func6, Tryd.ntmps6
  go_wp2_with (go_at_call 7; refine HA.out.mono ?_; rintro e w1 ⟨rfl, hw1⟩)
  go_ret
  exact ⟨rfl, (HE.out.below hw1).kept⟩
set_option maxHeartbeats 1000000 in
set_option maxRecDepth 100000 in
theorem actPlain_few (p : Option Addr) (cp : Nat) (ps : List Int) (tells : Bool) (h : Nat → Int) (hlen : ps.length ≤ 7) (hps : ∀ n ∈ ps, 0 ≤ n ∧ n < 256) (w0 : World) (hl : KLies KB (.slice p ps.length cp) ps w0) (ht : Tab w0) (hz : 0 < w0.heap.size) :
    Calls Tryd.prog 6 #[.slice p ps.length cp, .bool tells, .agg (hc h)] w0 fun e w' => e = .returned (.bool true) ∧ Below w0.heap.size w0 w' := by
  have HA := Lib.hid (fun (W : World) (hb : Below w0.heap.size w0 W) => aanswers W ((Env.start ht hz).predK W hb).1 ((Env.start ht hz).predK W hb).2)
  have HRu := Lib.hid (fun (v : Value) (W : World) (lv : KLies KA v (plL ps tells) W) (hb : Below w0.heap.size w0 W) => run_any v (plL ps tells) h (by have := plL_snd ps tells hlen; unfold sndAL at this; rw [Bool.and_eq_true, decide_eq_true_eq] at this; omega) (plL_wf ps tells) W lv ((Env.start ht hz).predK W hb).1 ((Env.start ht hz).predK W hb).2)
  rw [plL_run ps tells h hlen, plL_has ps tells hlen] at HRu
  have HP := Lib.hid (show P1 w0 h (.slice none 0 0) [] (w0.alloc (.cells (hc h) 25)) from ⟨Blk.new _ _ _, KOwns.nil _ _, below1 _ _⟩)
  have HL := Lib.hid (fun (W : World) (hb : Below w0.heap.size w0 W) => hl.below okB hb)
  have HPS := Lib.hid hps
  have hI : ¬ (7 : Int) < (ps.length : Int) := by omega
  clear hl ht hps
  go_enter Tryd.func6, Tryd.ntmps6
  go_upto_region 4 with (fail)
  generalize w0.alloc (.cells (hc h) 25) = W1 at *
  clear hI
  go_wp2_with fail
  go_loopg [8, 7] ps.length (fun kk i s wr => ∃ r : Nat, r + kk = ps.length ∧ i = .int .i64 r ∧ P1 w0 h s ((plA ps).take r) wr)
  case atStart => exact ⟨0, by omega, rfl, HP.out⟩
  case round =>
    clear HP
    obtain ⟨r, hr, rfl, hP⟩ := hrel
    have HP := Lib.hid hP
    clear hP
    by_cases hlt : r < ps.length
    · have hltI : (r : Int) < (ps.length : Int) := by omega
      obtain ⟨c, hc'⟩ := lt_some hlt
      obtain ⟨bb, o, rfl, hrg⟩ := (HL.out _ HP.out.2.2).at hc'
      have c0 : wr.cell? ⟨bb, o + r * 1, none⟩ = some (.int .u8 c) := hrg 0 _ rfl
      have c1 : wr.cell? ⟨bb, o + r, none⟩ = some (.int .u8 c) := by rw [← c0, Nat.mul_one]
      obtain ⟨n0, n1⟩ := HPS.out c (List.mem_of_getElem? hc')
      have HT := Lib.hid (takeAt (plA_at hc'))
      clear hrg hc'
      go_wp2_with (refine buildA1 rfl (.tmp 29) rfl (pv c) rfl ?_; refine Hid.out ?_)
      refine Lib.hid ?_
      have RA := Lib.hid (Blk.new wr (aca ⟨1, pv c, 0, 0⟩) 38)
      have HP1 := Lib.hid (P1.below (below1 wr (.cells (aca ⟨1, pv c, 0, 0⟩) 38)) HP.out)
      have HLt := Lib.hid (show w0.heap.size + 1 ≤ (wr.alloc (.cells (aca ⟨1, pv c, 0, 0⟩) 38)).heap.size from HP1.out.1.lt)
      refine kbuildOne KA okA zA zeroA rfl (.tmp 30) rfl (aca ⟨1, pv c, 0, 0⟩) rfl (by decide) (fillA _) ?_
      refine kappend KA okA rfl (.tmp 22) (.tmp 31) rfl (w0.heap.size + 1) u7 ((plA ps).take r) [⟨1, pv c, 0, 0⟩] rfl HP1.out.2.1 _ rfl (RA.out.klies okA (aca_flat _)) HLt.out (by simp; omega) (fun v' w' ho hg => ?_)
      have HP2 := Lib.hid (P1.grown HP1.out ho hg)
      rw [← HT.out] at HP2
      clear ho hg HP1 HP RA HLt HT c0 c1
      go_wp2_with fail
      go_roundg (ps.length - (r + 1))
      case measure => omega
      case rel => exact ⟨r + 1, by omega, by go_num, HP2.out⟩
    · have hltI : ¬ (r : Int) < (ps.length : Int) := by omega
      have e : (plA ps).take r = plA ps := List.take_of_length_le (by simp [plA]; omega)
      rw [e] at HP
      clear e
      go_upto_if 33 with (fail)
      clear hltI hr hlt
      go_cut [7] (fun s W => P1 w0 h s (plL ps tells) W)
      case first =>
        cases tells
        · go_wp2_with fail
          go_meet
          case rel => rw [show plL ps false = plA ps from by simp [plL]]; exact HP.out
        · have RA := Lib.hid (Blk.new wr (aca ⟨3, 0, 0, 0⟩) 38)
          have HP1 := Lib.hid (P1.below (below1 wr (.cells (aca ⟨3, 0, 0, 0⟩) 38)) HP.out)
          have HLt := Lib.hid (show w0.heap.size + 1 ≤ (wr.alloc (.cells (aca ⟨3, 0, 0, 0⟩) 38)).heap.size from HP1.out.1.lt)
          go_wp2_with (refine kbuildOne KA okA zA zeroA rfl (.tmp 35) rfl (aca ⟨3, 0, 0, 0⟩) rfl (by decide) (fillA _) ?_; refine Hid.out ?_)
          refine Lib.hid ?_
          refine kappend KA okA rfl (.tmp 34) (.tmp 36) rfl (w0.heap.size + 1) u7 (plA ps) [⟨3, 0, 0, 0⟩] rfl HP1.out.2.1 _ rfl (RA.out.klies okA (aca_flat _)) HLt.out (by simp [plA]; omega) (fun v' w' ho hg => ?_)
          have HP2 := Lib.hid (P1.grown HP1.out ho hg)
          clear ho hg HP1 HP RA HLt
          go_wp2_with fail
          go_meet
          case rel => exact HP2.out
      case rest =>
        clear HP
        have HP := Lib.hid hcut
        clear hcut
        go_upto_region 11 with (first
          | (refine wpList_load_row rfl 25 (.tmp 5) rfl w0.heap.size rfl 25 (hc h) (0, 0) _ HP.out.1 Tryd.underlying25 rfl (by kernel_rfl) ?_)
          | (go_at_call 8; refine (HRu.out _ _ (HP.out.2.1.lies okA) HP.out.2.2).mono ?_; rintro e w8 ⟨vx, rfl, ho8, hb8⟩))
        obtain ⟨X, hX⟩ : ∃ X, X = plS h ps := ⟨_, rfl⟩
        rw [← hX] at ho8
        have HXL := Lib.hid (show X.length = ps.length by rw [hX]; simp [plS])
        have HXA := Lib.hid (show ∀ (r : Nat) (c : Int), ps[r]? = some c → X[r]? = some ⟨pv c, h⟩ from fun r c hc' => by rw [hX]; simp [plS, hc'])
        have HB8 := HP.out.2.2.trans (hb8.mono HP.out.2.2.size)
        have HS := Lib.hid (show P2 w0 (.slice p ps.length cp) ps vx X h w8 from ⟨HL.out _ HB8, ho8.lies okS, HP.out.1.below hb8, HB8⟩)
        clear hX ho8 hb8 HB8 HP HRu HL
        obtain ⟨px, cx, rfl⟩ := HS.out.2.1.form
        have hd := eq_len' HXL.out
        have htt : (tells != tells) = false := by simp
        go_wp2_with fail
        clear hd htt
        go_loopg [11] X.length (fun kk i wr => ∃ r : Nat, r + kk = X.length ∧ i = .int .i64 r ∧ P2 w0 (.slice p ps.length cp) ps (.slice px X.length cx) X h wr)
        case atStart => exact ⟨0, by omega, rfl, HS.out⟩
        case round =>
          clear HS
          obtain ⟨r, hr, rfl, hS0⟩ := hrel
          have HS := Lib.hid hS0
          clear hS0
          by_cases hlt : r < X.length
          · have hltI : (r : Int) < (X.length : Int) := by omega
            have hltP : (r : Int) < (ps.length : Int) := by have := HXL.out; omega
            obtain ⟨c, hc'⟩ := lt_some (show r < ps.length by omega)
            have hx' := HXA.out r c hc'
            obtain ⟨n0, n1⟩ := HPS.out c (List.mem_of_getElem? hc')
            obtain ⟨b1, o1, rfl, _⟩ := HS.out.1.at hc'
            obtain ⟨b2, o2, rfl, _⟩ := HS.out.2.1.at hx'
            have HC := Lib.hid (And.intro hc' hx')
            clear hc' hx'
            have heq : ∀ w, (Op.equalIn 10000 25 (.agg (hl h).toArray) (.agg (hc h))).run Tryd.prog w = .ok true w := fun w => (eql_head h h w).trans (by rw [hEq_refl])
            have hgd := guardHead
            have hpv := pv_same c n0 n1
            go_upto_region 16 with (fail)
            refine wp_region_held_drew (S := P2 w0 (.slice (some ⟨b1, o1, none⟩) ps.length cp) ps (.slice (some ⟨b2, o2, none⟩) X.length cx) X h) (by kernel_rfl) (P2.below (Below.refl _ _).drew HS.out) (fun hS => ?_)
            clear HS
            generalize wr.drew = W at *
            refine seqRead 0 (v := _) rfl (by kernel_rfl) (by kernel_rfl) (by kernel_rfl) (fun _ _ _ h => h) rfl (fun w hSw => by go_simp <;> with_reducible rfl) hS ?_
            try simp only [Act.put, List.setIfInBounds_toArray, List.set_cons_zero, List.set_cons_succ]
            refine seqRead 1 (v := _) rfl (by kernel_rfl) (by kernel_rfl) (by kernel_rfl) (fun _ _ _ h => h) rfl (fun w hSw => by go_simp <;> with_reducible rfl) hS ?_
            try simp only [Act.put, List.setIfInBounds_toArray, List.set_cons_zero, List.set_cons_succ]
            refine seqRead 2 (v := _) rfl (by kernel_rfl) (by kernel_rfl) (by kernel_rfl) (fun _ _ _ h => h) rfl (fun w hSw => by go_simp <;> with_reducible rfl) hS ?_
            try simp only [Act.put, List.setIfInBounds_toArray, List.set_cons_zero, List.set_cons_succ]
            refine seqRead 3 (v := _) rfl (by kernel_rfl) (by kernel_rfl) (by kernel_rfl) (fun _ _ _ h => h) rfl (fun w hSw => by go_simp <;> with_reducible rfl) hS ?_
            try simp only [Act.put, List.setIfInBounds_toArray, List.set_cons_zero, List.set_cons_succ]
            refine seqRead 4 (v := _) rfl (by kernel_rfl) (by kernel_rfl) (by kernel_rfl) (fun _ _ _ h => h) rfl (fun w hSw => by have hq := (cellsS (hSw.2.1.at' HC.out.2)).1; go_simp <;> with_reducible rfl) hS ?_
            try simp only [Act.put, List.setIfInBounds_toArray, List.set_cons_zero, List.set_cons_succ]
            refine seqRead 5 (v := _) rfl (by kernel_rfl) (by kernel_rfl) (by kernel_rfl) (fun _ _ _ h => h) rfl (fun w hSw => by go_simp <;> with_reducible rfl) hS ?_
            try simp only [Act.put, List.setIfInBounds_toArray, List.set_cons_zero, List.set_cons_succ]
            refine seqRead 6 (v := _) rfl (by kernel_rfl) (by kernel_rfl) (by kernel_rfl) (fun _ _ _ h => h) rfl (fun w hSw => by go_simp <;> with_reducible rfl) hS ?_
            try simp only [Act.put, List.setIfInBounds_toArray, List.set_cons_zero, List.set_cons_succ]
            refine seqRead 7 (v := _) rfl (by kernel_rfl) (by kernel_rfl) (by kernel_rfl) (fun _ _ _ h => h) rfl (fun w hSw => by go_simp <;> with_reducible rfl) hS ?_
            try simp only [Act.put, List.setIfInBounds_toArray, List.set_cons_zero, List.set_cons_succ]
            refine seqRead 8 (v := _) rfl (by kernel_rfl) (by kernel_rfl) (by kernel_rfl) (fun _ _ _ h => h) rfl (fun w hSw => by have hq := byteAt (hSw.1.at' HC.out.1); have hq' := byteAt' (hSw.1.at' HC.out.1); go_simp <;> with_reducible rfl) hS ?_
            try simp only [Act.put, List.setIfInBounds_toArray, List.set_cons_zero, List.set_cons_succ]
            refine seqRead 9 (v := _) rfl (by kernel_rfl) (by kernel_rfl) (by kernel_rfl) (fun _ _ _ h => h) rfl (fun w hSw => by go_simp <;> with_reducible rfl) hS ?_
            try simp only [Act.put, List.setIfInBounds_toArray, List.set_cons_zero, List.set_cons_succ]
            refine seqRead 10 (v := _) rfl (by kernel_rfl) (by kernel_rfl) (by kernel_rfl) (fun _ _ _ h => h) rfl (fun w hSw => by go_simp <;> with_reducible rfl) hS ?_
            try simp only [Act.put, List.setIfInBounds_toArray, List.set_cons_zero, List.set_cons_succ]
            refine seqRead 11 (v := _) rfl (by kernel_rfl) (by kernel_rfl) (by kernel_rfl) (fun _ _ _ h => h) rfl (fun w hSw => by go_simp <;> with_reducible rfl) hS ?_
            try simp only [Act.put, List.setIfInBounds_toArray, List.set_cons_zero, List.set_cons_succ]
            refine seqRead 12 (v := _) rfl (by kernel_rfl) (by kernel_rfl) (by kernel_rfl) (fun _ _ _ h => h) rfl (fun w hSw => by go_simp <;> with_reducible rfl) hS ?_
            try simp only [Act.put, List.setIfInBounds_toArray, List.set_cons_zero, List.set_cons_succ]
            refine seqRead 13 (v := _) rfl (by kernel_rfl) (by kernel_rfl) (by kernel_rfl) (fun _ _ _ h => h) rfl (fun w hSw => by go_simp <;> with_reducible rfl) hS ?_
            try simp only [Act.put, List.setIfInBounds_toArray, List.set_cons_zero, List.set_cons_succ]
            refine seqRead 14 (v := _) rfl (by kernel_rfl) (by kernel_rfl) (by kernel_rfl) (fun _ _ _ h => h) rfl (fun w hSw => by go_simp <;> with_reducible rfl) hS ?_
            try simp only [Act.put, List.setIfInBounds_toArray, List.set_cons_zero, List.set_cons_succ]
            refine seqRead 15 (v := _) rfl (by kernel_rfl) (by kernel_rfl) (by kernel_rfl) (fun _ _ _ h => h) rfl (fun w hSw => by go_simp <;> with_reducible rfl) hS ?_
            try simp only [Act.put, List.setIfInBounds_toArray, List.set_cons_zero, List.set_cons_succ]
            refine seqRead 16 (v := _) rfl (by kernel_rfl) (by kernel_rfl) (by kernel_rfl) (fun _ _ _ h => h) rfl (fun w hSw => by go_simp <;> with_reducible rfl) hS ?_
            try simp only [Act.put, List.setIfInBounds_toArray, List.set_cons_zero, List.set_cons_succ]
            refine seqRead 17 (v := _) rfl (by kernel_rfl) (by kernel_rfl) (by kernel_rfl) (fun _ _ _ h => h) rfl (fun w hSw => by go_simp <;> with_reducible rfl) hS ?_
            try simp only [Act.put, List.setIfInBounds_toArray, List.set_cons_zero, List.set_cons_succ]
            refine seqRead 18 (v := _) rfl (by kernel_rfl) (by kernel_rfl) (by kernel_rfl) (fun _ _ _ h => h) rfl (fun w hSw => execRow rfl b2 (o2 + r * 13 + 1) rfl (hl h) _ (cellsS (hSw.2.1.at' HC.out.2)).2 Tryd.underlying25 rfl infoHead) hS ?_
            try simp only [Act.put, List.setIfInBounds_toArray, List.set_cons_zero, List.set_cons_succ]
            refine seqRead 19 (v := _) rfl (by kernel_rfl) (by kernel_rfl) (by kernel_rfl) (fun _ _ _ h => h) rfl (fun w hSw => execRow0 rfl _ rfl hSw.2.2.1 Tryd.underlying25 rfl (by kernel_rfl)) hS ?_
            try simp only [Act.put, List.setIfInBounds_toArray, List.set_cons_zero, List.set_cons_succ]
            refine seqRead 20 (v := _) rfl (by kernel_rfl) (by kernel_rfl) (by kernel_rfl) (fun _ _ _ h => h) rfl (fun w hSw => by go_simp <;> with_reducible rfl) hS ?_
            try simp only [Act.put, List.setIfInBounds_toArray, List.set_cons_zero, List.set_cons_succ]
            refine seqRead 21 (v := _) rfl (by kernel_rfl) (by kernel_rfl) (by kernel_rfl) (fun _ _ _ h => h) rfl (fun w hSw => by go_simp <;> with_reducible rfl) hS ?_
            try simp only [Act.put, List.setIfInBounds_toArray, List.set_cons_zero, List.set_cons_succ]
            refine seqDone (by kernel_rfl) ?_
            have HS2 := Lib.hid hS
            clear hS heq hgd hpv
            go_wp2_with fail
            go_roundg (X.length - (r + 1))
            case measure => omega
            case rel => exact ⟨r + 1, by omega, by go_num, HS2.out⟩
          · have hltI : ¬ (r : Int) < (X.length : Int) := by omega
            go_wp2_with (go_at_call 7; refine (HA.out _ HS.out.2.2.2).mono ?_; rintro e w11 ⟨rfl, hw11⟩)
            go_ret
            exact ⟨rfl, HS.out.2.2.2.trans (hw11.mono HS.out.2.2.2.size)⟩
theorem actPlain_any (v : Value) (ps : List Int) (hps : ∀ n ∈ ps, 0 ≤ n ∧ n < 256) (tells : Bool) (h : Nat → Int) (w0 : World) (hl : KLies KB v ps w0) (ht : Tab w0) (hz : 0 < w0.heap.size) :
    Calls Tryd.prog 6 #[v, .bool tells, .agg (hc h)] w0 fun e w' => e = .returned (.bool true) ∧ Below w0.heap.size w0 w' := by
  obtain ⟨p, cp, rfl⟩ := hl.form
  by_cases hn : ps.length ≤ 7
  · exact actPlain_few p cp ps tells h hn hps w0 hl ht hz
  · exact actPlain_many p cp ps.length tells h w0 ht hz hn
end Go.Proofs.YtpcacgfhjheiiaaDoor
