/-
  The walk of the program's Run of package act.
-/
import Derived.Test.YtpcacgfhjheiiaaDoorActFun
namespace Go.Proofs.YtpcacgfhjheiiaaDoor
open Go.RowKit

/-- the header behind an action -/
def stepH (h : Nat → Int) (a : Ac) : Nat → Int := if a.k = 2 then upd h a.f.toNat a.v else h
/-- what an action sends -/
def stepS (h : Nat → Int) (a : Ac) : List Sn := if a.k = 1 then [⟨a.p, h⟩] else []
/-- what a list of actions sends -/
def runS : (Nat → Int) → List Ac → List Sn
  | _, [] => []
  | h, a :: l => stepS h a ++ runS (stepH h a) l
/-- is the controller told? -/
def hasT (l : List Ac) : Bool := l.any fun a => a.k == 3
/-- what Run returns: what is sent; whether the controller is told -/
def runV (l : List Ac) (h : Nat → Int) : List Sn := if sndAL l then runS h l else []
def runB (l : List Ac) : Bool := sndAL l && hasT l
def RunRet (w : World) (L : List Sn) (b : Bool) (e : Ending) (w' : World) : Prop := ∃ v, e = .returned (.tuple #[v, .bool b]) ∧ KOwns KS w.heap.size v L w' ∧ Below w.heap.size w w'
theorem dropAt {α : Type} {l : List α} {r : Nat} {c : α} (h : l[r]? = some c) : l.drop r = c :: l.drop (r + 1) := by
  obtain ⟨h1, h2⟩ := List.getElem?_eq_some_iff.1 h
  rw [List.drop_eq_getElem_cons h1, h2]
theorem setE_any {n v : Int} (h : setE n v = 0) (g : Nat → Int) : setV g n v = upd g n.toNat v := by
  obtain ⟨k, rfl, hk, hf⟩ := setE_zero h
  rw [setV_in g k v hk hf]; rfl
/-- the rows of Run -/
def RunAt (w : World) (g : Nat → Int) (out : Value) (L : List Sn) (W : World) : Prop := Blk w.heap.size (hc g) 25 W ∧ KOwns KS (w.heap.size + 1) out L W ∧ Below w.heap.size w W
section
variable {w W W' : World} {g : Nat → Int} {out : Value} {L : List Sn}
theorem RunAt.below (h : RunAt w g out L W) (hb : Below W.heap.size W W') : RunAt w g out L W' := ⟨h.1.below hb, h.2.1.below hb, h.2.2.trans (hb.mono h.2.2.size)⟩
theorem RunAt.lt (h : RunAt w g out L W) : w.heap.size < W.heap.size := h.1.lt
theorem RunAt.grown {v' : Value} {L' : List Sn} (h : RunAt w g out L W) (h' : KOwns KS (w.heap.size + 1) v' L' W') (hg : W.grownBy W' out.ownBlock) : RunAt w g v' L' W' :=
  ⟨h.1.grown h.2.1 (by omega) hg, h', kbelowOwn h.2.2 h.2.1 (by omega) hg⟩
theorem RunAt.rset (h : RunAt w g out L W) (g' : Nat → Int) : RunAt w g' out L (W.setRow w.heap.size (hc g')) :=
  ⟨h.1.rset _, h.2.1.other fun b hb _ => setRow_other _ _ _ _ (by omega), below_setRow h.2.2 (by omega) _⟩
end
theorem sna_flat (s : Sn) : (sna s).toList = KS.flat [s] := rfl
theorem run_none (v : Value) (l : List Ac) (h : Nat → Int) (hlen : l.length ≤ 140737488355328) (hw : WfAL l) (hs : sndAL l = false) (w : World) (hl : KLies KA v l w) (ht : Tab w) (hz : 0 < w.heap.size) :
    Calls Tryd.prog 8 #[v, .agg (hc h)] w (RunRet w [] false) := by
  have HE := Lib.hid ((Env.start ht hz).alloc (.cells (hc h) 25))
  have HS := Lib.hid (asound_any v l hlen hw _ (hl.below okA (below1 w (.cells (hc h) 25))) HE.out.tab HE.out.lt)
  obtain ⟨p, cap, rfl⟩ := hl.form
  rw [hs] at HS
  clear hl hw ht hs
  go_enter Tryd.func8, Tryd.ntmps8
  go_wp2_with (go_at_call 10; refine HS.out.mono ?_; rintro e w1 ⟨rfl, hw1⟩)
  have HB := Lib.hid (HE.out.below hw1).kept
  clear hw1 HE HS
  go_ret2
  exact ⟨_, rfl, KOwns.nil _ _, HB.out⟩
theorem zeroOf {T : TypeId} {zs : Array Value} {i : TypeInfo} {z : Value} (h : ((Tryd.prog.info? T).bind (·.zero)).map (·.cells) = some zs) (hi : Tryd.prog.info? T = some i) (hz : i.zero = some z) : z.cells = zs := by
  rw [hi] at h
  simpa [hz] using h
/-- A slice of some elements, written out. -/
theorem kbuild {α : Type} (K : Kd α) (ok : K.Ok) (m : Nat) (zs : Array Value) (hzs : ((Tryd.prog.info? K.T).bind (·.zero)).map (·.cells) = some zs) {ops : Array Oper} {rest : List Oper} {o : Oper} {a : Act} {w : World} {Q : Exit → Act → World → Prop} (hg : o.guard = none)
    (parts : Array (Nat × Operand)) (ho : o.op = .buildSlice K.S m parts) (vs : List (Nat × Value)) (hv : (parts.map fun (p : Nat × Operand) => (p.1, a.eval p.2)).toList = vs) (cs : Array Value)
    (hsm : m * K.n ≤ 1000) (hm : 0 < m) (hf : Instr.fill (fun i' => some (i' * K.n, K.n)) ((Array.range (m * K.n)).map (zs[· % zs.size]!)) vs = some cs)
    (h : wpList Tryd.prog ops Q rest (a.put o.dst (.slice (some ⟨w.heap.size, 0, none⟩) m m)) (w.alloc (.cells cs K.T))) : wpList Tryd.prog ops Q (o :: rest) a w := by
  obtain ⟨i, z, hi, hz, hs, hb, hc⟩ := ok.info
  have hzc := zeroOf hzs hi hz
  refine wpList_buildSlice hg K.S K.T m parts ho cs i z ok.under hi hz ?_ ?_ ?_ h
  · rw [hs]; omega
  · rw [hs]
    have := ok.pos
    have : 0 < m * K.n := Nat.mul_pos hm this
    omega
  · rw [hs, hzc]
    exact (congrArg (Instr.fill (fun i' => some (i' * K.n, K.n)) ((Array.range (m * K.n)).map (zs[· % zs.size]!))) hv).trans hf
/-- A slice of one element, written out. -/
theorem kbuildOne {α : Type} (K : Kd α) (ok : K.Ok) (zs : Array Value) (hzs : ((Tryd.prog.info? K.T).bind (·.zero)).map (·.cells) = some zs) {ops : Array Oper} {rest : List Oper} {o : Oper} {a : Act} {w : World} {Q : Exit → Act → World → Prop} (hg : o.guard = none)
    (x : Operand) (ho : o.op = .buildSlice K.S 1 #[(0, x)]) (cs : Array Value) (hx : a.eval x = .agg cs) (hsm : 1 * K.n ≤ 1000) (hf : Instr.fill (fun i' => some (i' * K.n, K.n)) ((Array.range (1 * K.n)).map (zs[· % zs.size]!)) [(0, .agg cs)] = some cs)
    (h : wpList Tryd.prog ops Q rest (a.put o.dst (.slice (some ⟨w.heap.size, 0, none⟩) 1 1)) (w.alloc (.cells cs K.T))) : wpList Tryd.prog ops Q (o :: rest) a w :=
  kbuild K ok 1 zs hzs hg _ ho _ (by simp [hx]) cs hsm (by decide) hf h
def zA : Array Value := #[.int .i64 0, .int .i64 0, .int .i64 0, .int .u64 0]
def zS : Array Value := #[.int .i64 0, .int .u64 0, .int .u64 0, .int .u64 0, .int .u64 0, .int .u64 0, .int .u64 0, .int .u64 0, .int .u64 0, .int .u64 0, .int .u64 0, .int .u64 0, .int .u64 0]
theorem zeroA : ((Tryd.prog.info? KA.T).bind (·.zero)).map (·.cells) = some zA := by kernel_rfl
theorem zeroS : ((Tryd.prog.info? KS.T).bind (·.zero)).map (·.cells) = some zS := by kernel_rfl
theorem fillS (s : Sn) : Instr.fill (fun i' => some (i' * 13, 13)) ((Array.range (1 * 13)).map (zS[· % zS.size]!)) [(0, .agg (sna s))] = some (sna s) := by kernel_rfl
theorem fillA (s : Ac) : Instr.fill (fun i' => some (i' * 4, 4)) ((Array.range (1 * 4)).map (zA[· % zA.size]!)) [(0, .agg (aca s))] = some (aca s) := by kernel_rfl
theorem builtS (p : Int) (g : Nat → Int) : Tryd.prog.built 32 [(0, .int .i64 p), (1, .agg (hc g))] = some (sna ⟨p, g⟩) := by kernel_rfl
/-- What is sent, put together. -/
theorem buildS {ops : Array Oper} {rest : List Oper} {o : Oper} {a : Act} {w : World} {Q : Exit → Act → World → Prop} (hg : o.guard = none) (x y : Operand) (ho : o.op = .build 32 #[(0, x), (1, y)]) (p : Int) (g : Nat → Int)
    (hx : a.eval x = .int .i64 p) (hy : a.eval y = .agg (hc g)) (h : wpList Tryd.prog ops Q rest (a.put o.dst (.agg (sna ⟨p, g⟩))) w) : wpList Tryd.prog ops Q (o :: rest) a w := by
  have e : Tryd.prog.built 32 ((#[(0, x), (1, y)] : Array (Nat × Operand)).map fun (q : Nat × Operand) => (q.1, a.eval q.2)).toList = some (sna ⟨p, g⟩) := by
    simp only [List.map_toArray, List.map_cons, List.map_nil, hx, hy]
    exact builtS p g
  refine wpList_build hg _ _ ho (by rw [e]; rfl) ?_
  rw [e]
  exact h
theorem snd_len {l : List Ac} (h : sndAL l = true) : l.length ≤ 8 := by
  unfold sndAL at h
  rw [Bool.and_eq_true, decide_eq_true_eq] at h
  exact h.1
theorem hasT_cons (c : Ac) (l : List Ac) : hasT (c :: l) = ((c.k == 3) || hasT l) := rfl
theorem snd_mem {l : List Ac} (h : sndAL l = true) {i : Nat} {c : Ac} (hi : l[i]? = some c) : sndA c = true := by
  unfold sndAL at h
  rw [Bool.and_eq_true] at h
  exact List.all_eq_true.1 h.2 c (List.mem_of_getElem? hi)
theorem snd_cases' {c : Ac} (h : sndA c = true) : (∃ p, c = ⟨1, p, 0, 0⟩ ∧ 1 ≤ p ∧ p ≤ 16) ∨ (∃ f v, c = ⟨2, 0, f, v⟩ ∧ setE f v = 0) ∨ c = ⟨3, 0, 0, 0⟩ := by
  obtain ⟨k, p, f, v⟩ := c
  unfold sndA at h
  by_cases h1 : k = 1
  · subst h1
    simp only [if_true, Bool.and_eq_true, decide_eq_true_eq, beq_iff_eq] at h
    obtain ⟨⟨⟨a1, a2⟩, rfl⟩, rfl⟩ := h
    exact .inl ⟨p, rfl, a1, a2⟩
  · by_cases h2 : k = 2
    · subst h2
      simp at h
      obtain ⟨a1, rfl⟩ := h
      exact .inr (.inl ⟨f, v, rfl, a1⟩)
    · by_cases h3 : k = 3
      · subst h3
        simp at h
        obtain ⟨⟨rfl, rfl⟩, rfl⟩ := h
        exact .inr (.inr rfl)
      · simp [h1, h2, h3] at h
set_option maxHeartbeats 2000000 in
theorem run_yes (v : Value) (l : List Ac) (h : Nat → Int) (T : List Sn) (B : Bool) (hT : runS h l = T) (hB : hasT l = B) (hlen : l.length ≤ 140737488355328) (hw : WfAL l) (hs : sndAL l = true) (w : World) (hl : KLies KA v l w) (ht : Tab w) (hz : 0 < w.heap.size) :
    Calls Tryd.prog 8 #[v, .agg (hc h)] w (RunRet w T B) := by
  have hE := (Env.start ht hz).alloc (.cells (hc h) 25)
  have HS := Lib.hid (asound_any v l hlen hw _ (hl.below okA (below1 w (.cells (hc h) 25))) hE.tab hE.lt)
  rw [hs] at HS
  obtain ⟨p, cap, rfl⟩ := hl.form
  have HL := Lib.hid hl
  have HW := Lib.hid hw
  have HK := Lib.hid hs
  have HE := Lib.hid hE
  have HT := Lib.hid (And.intro hT hB)
  have H0 := Lib.hid (And.intro ht hz)
  have hl8 := snd_len hs
  clear hl hw ht hs hE hT hB hz
  go_enter Tryd.func8, Tryd.ntmps8
  go_wp2_with (go_at_call 10; refine HS.out.mono ?_; rintro e w1 ⟨rfl, hw1⟩)
  have HA := Lib.hid (show RunAt w h (.slice none 0 0) [] w1 from ⟨(Blk.new w (hc h) 25).below hw1, KOwns.nil _ _, (HE.out.below hw1).kept⟩)
  clear hw1 HE HS
  go_loopw [13, 4, 5] (fun i out tl wr => ∃ (r : Nat) (g : Nat → Int) (L : List Sn) (b : Bool), r ≤ l.length ∧ i = .int .i64 r ∧ tl = .bool b ∧ L ++ runS g (l.drop r) = T ∧ (b || hasT (l.drop r)) = B ∧ L.length ≤ r ∧ RunAt w g out L wr) (fun i _ _ _ => (l.length - intOf i).toNat)
  case atStart => exact ⟨0, h, [], false, by omega, rfl, rfl, by simpa using HT.out.1, by simpa using HT.out.2, by simp, HA.out⟩
  case round =>
    clear HA
    obtain ⟨r, g, L, b, hr, rfl, rfl, h1, h2, h3, hA⟩ := hrel
    have HA := Lib.hid hA
    have HC := Lib.hid (And.intro h1 (And.intro h2 h3))
    clear hA h1 h2 h3
    by_cases hlt : r < l.length
    · have hltI : (r : Int) < (l.length : Int) := by omega
      obtain ⟨c, hc'⟩ := lt_some hlt
      obtain ⟨bb, o, rfl, hrg⟩ := (HL.out.below okA HA.out.2.2).at hc'
      have HR := Lib.hid hrg
      have HD := Lib.hid (dropAt hc')
      have HWf := Lib.hid (HW.out.at hc')
      rcases snd_cases' (snd_mem HK.out hc') with ⟨pt, rfl, p1, p2⟩ | ⟨f, x, rfl, hse⟩ | rfl
      · clear hrg hc' p1 p2
        have R1 := Lib.hid (Blk.new wr (aca ⟨1, pt, 0, 0⟩) 38)
        have HA1 := Lib.hid (HA.out.below (below1 wr (.cells (aca ⟨1, pt, 0, 0⟩) 38)))
        have HV := Lib.hid (H0.out.1.below H0.out.2 HA1.out.2.2)
        have HZ := Lib.hid (Nat.lt_of_lt_of_le H0.out.2 HA1.out.2.2.size)
        go_upto_region 6 with (first
          | (refine wpList_load_mid rfl 38 _ rfl bb (o + r * 4) rfl (acl ⟨1, pt, 0, 0⟩) _ HR.out Tryd.underlying38 rfl infoA ?_)
          | (refine wpList_store_row rfl 38 _ _ rfl wr.heap.size (aca ⟨1, pt, 0, 0⟩) rfl rfl 38 _ (heap_alloc_new _ _) (by kernel_rfl) rfl (aca_one _) ?_; rw [World.setRow_alloc_new]))
        clear HA HR
        generalize wr.heap.size = Bk at *
        generalize wr.alloc (.cells (aca ⟨1, pt, 0, 0⟩) 38) = W1 at *
        obtain ⟨k0, k1, k2, k3⟩ := cellA R1.out
        have RS := Lib.hid (Blk.new W1 (sna ⟨pt, g⟩) 32)
        have HA2 := Lib.hid (HA1.out.below (below1 W1 (.cells (sna ⟨pt, g⟩) 32)))
        go_upto_region 8 with (fail)
        go_wp2_with (first
          | (refine wpList_load_row rfl 25 (.tmp 3) rfl w.heap.size rfl 25 (hc g) (0, 0) _ HA1.out.1 Tryd.underlying25 rfl (by kernel_rfl) ?_)
          | (refine buildS rfl (.tmp 23) (.tmp 24) rfl pt g rfl rfl ?_)
          | (refine kbuildOne KS okS zS zeroS rfl (.tmp 25) rfl (sna ⟨pt, g⟩) rfl (by decide) (fillS _) ?_; refine Hid.out ?_))
        refine Lib.hid ?_
        refine kappend KS okS rfl (.tmp 21) (.tmp 26) rfl (w.heap.size + 1) u4 L [⟨pt, g⟩] rfl HA2.out.2.1 _ rfl (RS.out.klies okS (sna_flat _)) (by have := HA2.out.lt; omega) (by have := HC.out.2.2; simp; omega) (fun v' w' ho hg => ?_)
        have HA3 := Lib.hid (HA2.out.grown ho hg)
        clear ho hg HA2 HA1 RS R1 HV HZ k0 k1 k2 k3
        go_wp2_with (fail)
        go_roundw
        case rel =>
          refine ⟨r + 1, g, L ++ [⟨pt, g⟩], b, by omega, by go_num, rfl, ?_, ?_, by have := HC.out.2.2; simp; omega, HA3.out⟩
          · have e := HC.out.1
            rw [HD.out] at e
            simpa [runS, stepS, stepH] using e
          · have e := HC.out.2.1
            rw [HD.out] at e
            simpa [hasT] using e
        case measure => simp [intOf]; omega
      · clear hrg hc'
        have R1 := Lib.hid (Blk.new wr (aca ⟨2, 0, f, x⟩) 38)
        have HA1 := Lib.hid (HA.out.below (below1 wr (.cells (aca ⟨2, 0, f, x⟩) 38)))
        have HV := Lib.hid (H0.out.1.below H0.out.2 HA1.out.2.2)
        have HZ := Lib.hid (Nat.lt_of_lt_of_le H0.out.2 HA1.out.2.2.size)
        go_upto_region 6 with (first
          | (refine wpList_load_mid rfl 38 _ rfl bb (o + r * 4) rfl (acl ⟨2, 0, f, x⟩) _ HR.out Tryd.underlying38 rfl infoA ?_)
          | (refine wpList_store_row rfl 38 _ _ rfl wr.heap.size (aca ⟨2, 0, f, x⟩) rfl rfl 38 _ (heap_alloc_new _ _) (by kernel_rfl) rfl (aca_one _) ?_; rw [World.setRow_alloc_new]))
        clear HA HR
        generalize wr.heap.size = Bk at *
        generalize wr.alloc (.cells (aca ⟨2, 0, f, x⟩) 38) = W1 at *
        obtain ⟨k0, k1, k2, k3⟩ := cellA R1.out
        have HS := Lib.hid (set_any g f x W1 HWf.out.1 HV.out HZ.out)
        rw [setE_any hse, hse] at HS
        clear hse
        go_upto_region 10 with (fail)
        go_wp2_with (first
          | (refine wpList_load_row rfl 25 (.tmp 3) rfl w.heap.size rfl 25 (hc g) (0, 0) _ HA1.out.1 Tryd.underlying25 rfl (by kernel_rfl) ?_)
          | (go_at_call 15; refine HS.out.mono ?_; rintro e w2 ⟨rfl, hw2⟩)
          | (refine wpList_store_row rfl 25 (.tmp 3) (.tmp 37) rfl w.heap.size (hc (upd g f.toNat x)) rfl rfl 25 _ (HA1.out.below hw2).1 (by kernel_rfl) rfl (hc_one _) ?_; refine Hid.out ?_))
        refine Lib.hid ?_
        have HA3 := Lib.hid ((HA1.out.below hw2).rset (upd g f.toNat x))
        clear hw2 HS HA1 R1 HV HZ k0 k1 k2 k3
        generalize w2.setRow w.heap.size (hc (upd g f.toNat x)) = W3 at *
        go_wp2_with (fail)
        go_roundw
        case rel =>
          refine ⟨r + 1, upd g f.toNat x, L, b, by omega, by go_num, rfl, ?_, ?_, by have := HC.out.2.2; simp; omega, HA3.out⟩
          · have e := HC.out.1
            rw [HD.out] at e
            simpa [runS, stepS, stepH] using e
          · have e := HC.out.2.1
            rw [HD.out] at e
            simpa [hasT] using e
        case measure => simp [intOf]; omega
      · clear hrg hc'
        have R1 := Lib.hid (Blk.new wr (aca ⟨3, 0, 0, 0⟩) 38)
        have HA1 := Lib.hid (HA.out.below (below1 wr (.cells (aca ⟨3, 0, 0, 0⟩) 38)))
        have HV := Lib.hid (H0.out.1.below H0.out.2 HA1.out.2.2)
        have HZ := Lib.hid (Nat.lt_of_lt_of_le H0.out.2 HA1.out.2.2.size)
        go_upto_region 6 with (first
          | (refine wpList_load_mid rfl 38 _ rfl bb (o + r * 4) rfl (acl ⟨3, 0, 0, 0⟩) _ HR.out Tryd.underlying38 rfl infoA ?_)
          | (refine wpList_store_row rfl 38 _ _ rfl wr.heap.size (aca ⟨3, 0, 0, 0⟩) rfl rfl 38 _ (heap_alloc_new _ _) (by kernel_rfl) rfl (aca_one _) ?_; rw [World.setRow_alloc_new]))
        clear HA HR
        generalize wr.heap.size = Bk at *
        generalize wr.alloc (.cells (aca ⟨3, 0, 0, 0⟩) 38) = W1 at *
        obtain ⟨k0, k1, k2, k3⟩ := cellA R1.out
        have HA3 := HA1
        clear HA1
        go_wp2_with (fail)
        go_roundw
        case rel =>
          refine ⟨r + 1, g, L, true, by omega, by go_num, rfl, ?_, ?_, by have := HC.out.2.2; simp; omega, HA3.out⟩
          · have e := HC.out.1
            rw [HD.out] at e
            simpa [runS, stepS, stepH] using e
          · have e := HC.out.2.1
            rw [HD.out] at e
            simpa [hasT] using e
        case measure => simp [intOf]; omega
    · have hltI : ¬ (r : Int) < (l.length : Int) := by omega
      have e : l.drop r = [] := List.drop_eq_nil_of_le (by omega)
      have HC' := HC.out
      rw [e] at HC'
      have e1 : L = T := by simpa [runS] using HC'.1
      have e2 : b = B := by simpa [hasT] using HC'.2.1
      subst e1 e2
      have HF := Lib.hid (HA.out.2.1.mono (show w.heap.size ≤ w.heap.size + 1 by omega))
      have HB := Lib.hid HA.out.2.2
      obtain ⟨p', cap', rfl⟩ := HA.out.2.1.form
      clear HC' e HA HC
      go_wp2
      go_ret2
      exact ⟨_, rfl, HF.out, HB.out⟩
theorem run_any (v : Value) (l : List Ac) (h : Nat → Int) (hlen : l.length ≤ 140737488355328) (hw : WfAL l) (w : World) (hl : KLies KA v l w) (ht : Tab w) (hz : 0 < w.heap.size) :
    Calls Tryd.prog 8 #[v, .agg (hc h)] w (RunRet w (runV l h) (runB l)) := by
  unfold runV runB
  cases hs : sndAL l
  · exact run_none v l h hlen hw hs w hl ht hz
  · exact run_yes v l h _ _ rfl rfl hlen hw hs w hl ht hz
end Go.Proofs.YtpcacgfhjheiiaaDoor
