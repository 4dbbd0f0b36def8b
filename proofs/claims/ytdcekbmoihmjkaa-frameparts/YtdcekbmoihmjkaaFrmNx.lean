/-
  Next of a reader of frames.
-/
import Derived.Test.YtdcekbmoihmjkaaFrmRm
namespace Go.Proofs.Ytdcekbmoihmjkaa
set_option maxRecDepth 20000
open Go.RowKit

/-- what Next gives of what waits: the error, the contents, what waits then, whether a length above the limit was met -/
def nxt (q : List Int) (bad : Bool) : Int × List Int × List Int × Bool :=
  if bad = true then (13, [], q, true) else if q.length < 4 then (8, [], q, false) else if 65536 < valB (q.take 4) then (13, [], q, true)
  else if q.length < 4 + (valB (q.take 4)).toNat then (8, [], q, false) else (0, (q.drop 4).take (valB (q.take 4)).toNat, q.drop (4 + (valB (q.take 4)).toNat), false)
theorem nxt_bad (q : List Int) : nxt q true = (13, [], q, true) := rfl
theorem nxt_short {q : List Int} (h : q.length < 4) : nxt q false = (8, [], q, false) := by unfold nxt; rw [if_neg (by decide), if_pos h]
theorem nxt_long {q : List Int} (h : ¬ q.length < 4) (h1 : 65536 < valB (q.take 4)) : nxt q false = (13, [], q, true) := by unfold nxt; rw [if_neg (by decide), if_neg h, if_pos h1]
theorem nxt_part {q : List Int} (h : ¬ q.length < 4) (h1 : ¬ 65536 < valB (q.take 4)) (h2 : q.length < 4 + (valB (q.take 4)).toNat) : nxt q false = (8, [], q, false) := by unfold nxt; rw [if_neg (by decide), if_neg h, if_neg h1, if_pos h2]
theorem nxt_ok {q : List Int} (h : ¬ q.length < 4) (h1 : ¬ 65536 < valB (q.take 4)) (h2 : ¬ q.length < 4 + (valB (q.take 4)).toNat) :
    nxt q false = (0, (q.drop 4).take (valB (q.take 4)).toNat, q.drop (4 + (valB (q.take 4)).toNat), false) := by unfold nxt; rw [if_neg (by decide), if_neg h, if_neg h1, if_neg h2]
/-- what Next leaves -/
def NxRet (b : Nat) (v : Value) (w : World) (r : Int × List Int × List Int × Bool) (e : Ending) (w' : World) : Prop :=
  ∃ x v', e = .returned (.tuple #[x, .int .i64 r.1]) ∧ KOwns KB w.heap.size x r.2.1 w' ∧ (∀ g, x.ownBlock = some g → v'.ownBlock ≠ some g) ∧ RdA b v' r.2.2.1 r.2.2.2 w' ∧ FKeep b v v' w w'
theorem NxRet.none {b : Nat} {v v' : Value} {w w' : World} {c : Int} {q : List Int} {bad : Bool} (h : RdA b v' q bad w') (k : FKeep b v v' w w') : NxRet b v w (c, [], q, bad) (.returned (.tuple #[.slice none 0 0, .int .i64 c])) w' :=
  ⟨_, v', rfl, KOwns.nil _ _, fun g hg => (by cases hg), h, k⟩
/-- where s[c:h] begins -/
def midP (p : Option Addr) (cap c : Nat) : Option Addr := if cap = c then p else p.map (·.add (c * 1))
/-- s[c:h] -/
theorem execMidB {a : Act} {oi : Oper} {w : World} {x y z : Operand} (ho : oi.op = .slice 22 x (some y) (some z) none) (p : Option Addr) (len cap c h : Nat) (hx : a.eval x = .slice p len cap) (hy : a.eval y = .int .i64 (c : Int)) (hz : a.eval z = .int .i64 (h : Int))
    (hc : c ≤ h) (hh : h ≤ cap) : (execOp a.eval oi).run Try.prog w = .ok (.value (.slice (midP p cap c) (h - c) (cap - c))) w := by
  unfold execOp
  simp only [ho, hx, Option.map_some, Option.map_none, hy, hz, Sem.run_bind]
  rw [run_sliceAt_slice (h := elemBs), run_slice_lh (ht := elemBs) (h0 := by omega) (h1 := by omega) (h2 := by omega), sizeElBs]
  simp [Result.andThen, sliced, midP]
theorem wpMidB {ops : Array Oper} {rest : List Oper} {oi : Oper} {a : Act} {w : World} {Q : Exit → Act → World → Prop} (hg : oi.guard = none) (x y z : Operand) (ho : oi.op = .slice 22 x (some y) (some z) none) (p : Option Addr) (len cap c h : Nat) (hx : a.eval x = .slice p len cap) (hy : a.eval y = .int .i64 (c : Int)) (hz : a.eval z = .int .i64 (h : Int))
    (hc : c ≤ h) (hh : h ≤ cap) (hQ : wpList Try.prog ops Q rest (a.put oi.dst (.slice (midP p cap c) (h - c) (cap - c))) w) : wpList Try.prog ops Q (oi :: rest) a w :=
  wpList_plain hg fun _ hK => by
    unfold Oper.wp
    rw [execMidB ho p len cap c h hx hy hz hc hh]
    exact hK _ _ hQ
theorem lies_mid {p : Option Addr} {cap c h : Nat} {l : List Int} {W : World} (hl : KLies KB (.slice p l.length cap) l W) (hc : c ≤ h) (hh : h ≤ l.length) :
    KLies KB (.slice (midP p cap c) (h - c) (cap - c)) ((l.drop c).take (h - c)) W := by
  have h1 := hl.from (c := c) (by omega)
  unfold fromV at h1
  rw [← List.length_drop] at h1
  exact h1.upto (by rw [List.length_drop]; omega)
theorem builtRd (n : Int) : Try.prog.built 39 [(2, .int .i64 n)] = some #[.slice none 0 0, .int .i64 0, .int .i64 n] := by kernel_rfl
/-- a reader built with its number of bytes unread -/
theorem buildRd {ops : Array Oper} {rest : List Oper} {o : Oper} {a : Act} {w : World} {Q : Exit → Act → World → Prop} (hg : o.guard = none) (x : Operand) (ho : o.op = .build 39 #[(2, x)]) (n : Int) (hx : a.eval x = .int .i64 n)
    (k : wpList Try.prog ops Q rest (a.put o.dst (.agg #[.slice none 0 0, .int .i64 0, .int .i64 n])) w) : wpList Try.prog ops Q (o :: rest) a w := by
  have e : ((#[(2, x)] : Array (Nat × Operand)).map fun (p : Nat × Operand) => (p.1, a.eval p.2)).toList = [(2, .int .i64 n)] := by simp [hx]
  have e' := congrArg (Try.prog.built 39) e
  rw [builtRd] at e'
  refine wpList_build hg 39 _ ho (by rw [e']; rfl) ?_
  rw [e']
  exact k
theorem fnext_bad (b : Nat) (v : Value) (q : List Int) (w : World) (h : RdA b v q true w) :
    Calls Try.prog 11 #[.pointer (some ⟨b, 0, none⟩)] w (NxRet b v w (nxt q true)) := by
  have HR := Lib.hid h
  obtain ⟨l, c, u, hB, hO, h1, h2, h3, h4, _⟩ := h
  have hu := h4 rfl
  have c2 : w.cell? ⟨b, 2, none⟩ = some (.int .i64 (u : Int)) := (cell_of_row w b 2 _ _ _ hB).trans rfl
  have huI : (u : Int) > 0 := by omega
  have huI2 : (0 : Int) < (u : Int) := by omega
  clear hB hO h1 h2 h3 h4 hu
  go_enter Try.func11, Try.ntmps11
  go_wp2_with fail
  go_ret2
  exact NxRet.none HR.out (FKeep.refl _ _ _)
set_option maxRecDepth 100000 in
set_option maxHeartbeats 4000000 in
theorem fnext_good (b : Nat) (v : Value) (q : List Int) (hlen : q.length ≤ 1000000) (hb : ByL q) (w : World) (h : RdA b v q false w) :
    Calls Try.prog 11 #[.pointer (some ⟨b, 0, none⟩)] w (NxRet b v w (nxt q false)) := by
  have HR0 := Lib.hid h
  obtain ⟨l, k, u, hB, hO, h1, h2, h3, h50, h5⟩ := h
  clear h50
  obtain ⟨rfl, h6⟩ := h5 rfl
  obtain ⟨p, c, rfl⟩ := hO.form
  obtain ⟨n, hn⟩ : ∃ n, n = l.length := ⟨_, rfl⟩
  obtain ⟨m, hm⟩ : ∃ m, m = q.length := ⟨_, rfl⟩
  have HNN := Lib.hid hn
  have HM := Lib.hid hm
  have HKn := Lib.hid (show k ≤ n by omega)
  have HQ := Lib.hid h6
  have HB := Lib.hid hb
  have HLEN := Lib.hid (And.intro hlen h2)
  rw [← hn] at hO hB HR0 ⊢
  obtain ⟨p1, c1, HV⟩ : ∃ p1 c1, Hid (fromV 1 p n c k = .slice p1 m c1) := ⟨if c = k then p else p.map (·.add (k * 1)), c - k, Lib.hid (by rw [show m = n - k by omega]; rfl)⟩
  have R0 := Lib.hid hB
  have HO0 := Lib.hid hO
  have c2 : w.cell? ⟨b, 2, none⟩ = some (.int .i64 0) := (cell_of_row w b 2 _ _ _ hB).trans rfl
  clear hB hO h1 h2 h3 h5 h6 hn hm hlen hb
  go_enter Try.func11, Try.ntmps11
  go_upto_region 5 with fail
  have R1 := Lib.hid (show Blk b #[.slice p n c, .int .i64 (k : Int), .int .i64 0] 39 w.drew from R0.out.drew)
  have HO1 := Lib.hid (HO0.out.below (Below.refl _ w).drew)
  have HF := Lib.hid (FKeep.of (v := .slice p n c) (Below.refl _ w).drew (Nat.le_of_lt R0.out.lt))
  have HR := Lib.hid (HR0.out.below (Below.refl _ w).drew)
  have HLT0 := Lib.hid (show ∀ g, (Value.slice p n c).ownBlock = some g → g < w.heap.size from fun g hg => (HO0.out.lt g hg).2)
  have HSZ := Lib.hid (show w.heap.size ≤ w.drew.heap.size from Nat.le_refl _)
  refine wp_region_held_drew (S := fun W' => W'.cell? ⟨b, 0, none⟩ = some (.slice p n c) ∧ W'.cell? ⟨b, 1, none⟩ = some (.int .i64 (k : Int))) (by kernel_rfl) ⟨(cell_of_row _ b 0 _ _ _ R1.out).trans rfl, (cell_of_row _ b 1 _ _ _ R1.out).trans rfl⟩ (fun hS => ?_)
  clear c2 R0 HO0 HR0
  generalize w.drew = W at *
  refine seqRead 0 (v := _) rfl (by kernel_rfl) (by kernel_rfl) (by kernel_rfl) (fun _ _ _ h => h) rfl (fun w hSw => by go_simp <;> with_reducible rfl) hS ?_
  try simp only [Act.put, List.setIfInBounds_toArray, List.set_cons_zero, List.set_cons_succ]
  refine seqRead 1 (v := _) rfl (by kernel_rfl) (by kernel_rfl) (by kernel_rfl) (fun _ _ _ h => h) rfl (fun w hSw => by go_simp <;> with_reducible rfl) hS ?_
  try simp only [Act.put, List.setIfInBounds_toArray, List.set_cons_zero, List.set_cons_succ]
  refine seqRead 2 (v := _) rfl (by kernel_rfl) (by kernel_rfl) (by kernel_rfl) (fun _ _ _ h => h) rfl (fun w hSw => by go_simp <;> with_reducible rfl) hS ?_
  try simp only [Act.put, List.setIfInBounds_toArray, List.set_cons_zero, List.set_cons_succ]
  refine seqRead 3 (v := _) rfl (by kernel_rfl) (by kernel_rfl) (by kernel_rfl) (fun _ _ _ h => h) rfl (fun w hSw => by obtain ⟨c0, c1⟩ := hSw; go_simp <;> with_reducible rfl) hS ?_
  try simp only [Act.put, List.setIfInBounds_toArray, List.set_cons_zero, List.set_cons_succ]
  refine seqRead 4 (v := _) rfl (by kernel_rfl) (by kernel_rfl) (by kernel_rfl) (fun _ _ _ h => h) rfl (fun w hSw => by go_simp <;> with_reducible rfl) hS ?_
  try simp only [Act.put, List.setIfInBounds_toArray, List.set_cons_zero, List.set_cons_succ]
  refine seqRead 5 (v := _) rfl (by kernel_rfl) (by kernel_rfl) (by kernel_rfl) (fun _ _ _ h => h) rfl (fun w hSw => by go_simp <;> with_reducible rfl) hS ?_
  try simp only [Act.put, List.setIfInBounds_toArray, List.set_cons_zero, List.set_cons_succ]
  refine seqRead 6 (v := _) rfl (by kernel_rfl) (by kernel_rfl) (by kernel_rfl) (fun _ _ _ h => h) rfl (fun w hSw => by go_simp <;> with_reducible rfl) hS ?_
  try simp only [Act.put, List.setIfInBounds_toArray, List.set_cons_zero, List.set_cons_succ]
  refine seqRead 7 (v := _) rfl (by kernel_rfl) (by kernel_rfl) (by kernel_rfl) (fun _ _ _ h => h) rfl (fun w hSw => by obtain ⟨c0, c1⟩ := hSw; go_simp <;> with_reducible rfl) hS ?_
  try simp only [Act.put, List.setIfInBounds_toArray, List.set_cons_zero, List.set_cons_succ]
  refine seqRead 8 (v := _) rfl (by kernel_rfl) (by kernel_rfl) (by kernel_rfl) (fun _ _ _ h => h) rfl (fun w hSw => (show (execOp _ _).run _ w = .ok (.value (.slice p1 m c1)) w from by rw [← HV.out]; exact execFromB rfl p n c k rfl rfl HKn.out)) hS ?_
  try simp only [Act.put, List.setIfInBounds_toArray, List.set_cons_zero, List.set_cons_succ]
  refine seqRead 9 (v := _) rfl (by kernel_rfl) (by kernel_rfl) (by kernel_rfl) (fun _ _ _ h => h) rfl (fun w hSw => by go_simp <;> with_reducible rfl) hS ?_
  try simp only [Act.put, List.setIfInBounds_toArray, List.set_cons_zero, List.set_cons_succ]
  refine seqDone (by kernel_rfl) ?_
  clear hS
  have HWL := Lib.hid (show KLies KB (.slice p1 m c1) q W by
    have h := HO1.out.lies okB
    rw [HNN.out] at h
    have h7 := h.from (c := k) (by have := HKn.out; have := HNN.out; omega)
    rw [HQ.out] at h7
    have e := HV.out
    rw [HNN.out] at e
    rw [← e]
    exact h7)
  by_cases h4 : m < 4
  · have h4I : (m : Int) < 4 := by omega
    have HY := Lib.hid (nxt_short (q := q) (by rw [← HM.out]; exact h4))
    go_wp2_with fail
    go_ret2
    rw [HY.out]
    exact NxRet.none HR.out HF.out
  have h4I : ¬ (m : Int) < 4 := by omega
  have H4 := Lib.hid (show ¬ q.length < 4 by rw [← HM.out]; exact h4)
  clear h4
  obtain ⟨V, hV⟩ : ∃ V : Nat, (V : Int) = valB (q.take 4) := ⟨(valB (q.take 4)).toNat, Int.toNat_of_nonneg (valB_lt HB.out (r := 4) (s := 4) (Nat.le_refl _)).1⟩
  have HVn := Lib.hid (show (valB (q.take 4)).toNat = V by rw [← hV]; rfl)
  have HC := Lib.hid (flength_any (.slice p1 m c1) q (by have := H4.out; omega) HB.out W HWL.out)
  have hV4 := (valB_lt HB.out (r := 4) (s := 4) (Nat.le_refl _)).2
  rw [powB_4] at hV4
  rw [← hV] at HC hV4
  have HVe := Lib.hid hV
  clear hV
  go_wp2_with (go_at_call 15; refine HC.out.mono ?_; rintro e W2 ⟨rfl, rfl⟩; refine Hid.out ?_)
  clear HC
  by_cases hL : 65536 < V
  · have hLI : (65536 : Int) < (V : Int) := by omega
    have HY := Lib.hid (nxt_long H4.out (by rw [← HVe.out]; exact hLI))
    clear hL
    refine Lib.hid ?_
    go_wp2_with (first
      | (refine buildRd rfl _ rfl (m : Int) rfl ?_)
      | (refine wpList_store_row rfl 39 _ _ rfl b #[.slice none 0 0, .int .i64 0, .int .i64 (m : Int)] rfl rfl 39 _ R1.out (by kernel_rfl) rfl (by simp [Value.oneCell']) ?_; refine Hid.out ?_))
    have R2 := Lib.hid (R1.out.rset #[.slice none 0 0, .int .i64 0, .int .i64 (m : Int)])
    have HF2 := Lib.hid (show FKeep b (.slice p n c) (.slice none 0 0) w (W2.setRow b #[.slice none 0 0, .int .i64 0, .int .i64 (m : Int)]) from ⟨below_setRow HF.out.below (Nat.le_refl _) _, fun g hg hne hv => (setRow_other _ _ _ _ hne).trans (HF.out.keep g hg hne hv), fun g hg => (by cases hg)⟩)
    clear R1 HF HR HO1 HWL
    generalize W2.setRow b #[.slice none 0 0, .int .i64 0, .int .i64 (m : Int)] = W3 at *
    refine Lib.hid ?_
    go_wp2_with fail
    go_ret2
    rw [HY.out]
    exact NxRet.none ⟨[], 0, m, R2.out, KOwns.nil _ _, Nat.le_refl _, Nat.zero_le _, by have := HM.out; show q.length = 0 - 0 + m; omega, fun _ => (by have := H4.out; have := HM.out; omega), fun h => (by cases h)⟩ HF2.out
  have hLI : ¬ (65536 : Int) < (V : Int) := by omega
  obtain ⟨z, hz⟩ : ∃ z, z = 4 + V := ⟨_, rfl⟩
  have HZ := Lib.hid hz
  have e0 : IntKind.i64.wrap (V : Int) = (V : Int) := by simp only [IntKind.wrap_i64]; omega
  have e0' : wrap64 (V : Int) = (V : Int) := by simp only [wrap64]; omega
  have e1 : IntKind.i64.wrap (4 + (V : Int)) = (z : Int) := by simp only [IntKind.wrap_i64]; omega
  have e2 : wrap64 (4 + (V : Int)) = (z : Int) := by simp only [wrap64]; omega
  clear hL hz
  by_cases hP : m < z
  · have hPI : (m : Int) < (z : Int) := by omega
    have HY := Lib.hid (nxt_part H4.out (by rw [← HVe.out]; exact hLI) (by rw [HVn.out, ← HM.out, ← HZ.out]; exact hP))
    clear hP
    refine Lib.hid ?_
    go_wp2_with fail
    go_ret2
    rw [HY.out]
    exact NxRet.none HR.out HF.out
  have hPI : ¬ (m : Int) < (z : Int) := by omega
  have HP := Lib.hid (Nat.le_of_not_lt hP)
  have HY := Lib.hid (nxt_ok H4.out (by rw [← HVe.out]; exact hLI) (by rw [HVn.out, ← HM.out, ← HZ.out]; exact hP))
  clear hP
  refine Lib.hid ?_
  go_upto_region 15 with fail
  have HCL := Lib.hid (bclone_any (.slice (midP p1 c1 4) (z - 4) (c1 - 4)) ((q.drop 4).take (z - 4)) (by rw [List.length_take]; have := HLEN.out.1; have := HP.out; have := HM.out; omega) W2 (by have h := HWL.out; rw [HM.out] at h; exact lies_mid h (by have := HZ.out; omega) (by have := HP.out; have := HM.out; omega)))
  have hcap : z ≤ c1 := by have h := HWL.out; rw [HM.out] at h; have := h.capLe; have := HP.out; have := HM.out; omega
  have hz4 : 4 ≤ z := by have := HZ.out; omega
  have hz4I : (4 : Int) ≤ (z : Int) := by omega
  clear hV4 e0 e0' e1 e2 hPI hLI h4I
  go_wp2_with (refine wpMidB rfl _ _ _ rfl p1 m c1 4 z rfl rfl rfl hz4 hcap ?_; simp only [Act.put, List.setIfInBounds_toArray, List.set_cons_zero, List.set_cons_succ]; refine Hid.out ?_)
  have HZ4 := Lib.hid (show z - 4 = V by have := HZ.out; omega)
  generalize midP p1 c1 4 = p4 at *
  generalize c1 - 4 = c4 at *
  generalize z - 4 = z4 at *
  refine Lib.hid ?_
  go_wp2_with (go_at_call 16; refine HCL.out.mono ?_; rintro e W3 ⟨x, rfl, hx, hw3⟩; refine Hid.out ?_)
  have R3 := Lib.hid (R1.out.below hw3)
  have HO3 := Lib.hid (HO1.out.below hw3)
  have HX3 := Lib.hid hx
  have HF3 := Lib.hid (HF.out.trans (FKeep.of (v := .slice p n c) hw3 (Nat.le_of_lt R1.out.lt)))
  have HLT3 := Lib.hid (show ∀ g, x.ownBlock = some g → W2.heap.size ≤ g ∧ g < W3.heap.size from fun g hg => hx.lt g hg)
  have HS3 := Lib.hid R1.out.lt
  clear hx hw3 HCL HO1 HR HWL hcap hz4 hz4I R1
  have HRM := Lib.hid (fremove_any b (.slice p n c) l k z (by have := HP.out; have := HM.out; have := HQ.out; have h := congrArg List.length HQ.out; rw [List.length_drop] at h; have := HNN.out; have := HKn.out; omega) (by have := HLEN.out; omega) W3 R3.out HO3.out)
  have HDR := Lib.hid (show l.drop (k + z) = q.drop z by rw [← HQ.out, List.drop_drop])
  rw [HDR.out] at HRM
  refine Lib.hid ?_
  go_wp2_with (go_at_call 17; refine HRM.out.mono ?_; rintro e W4 ⟨rfl, v', hr, hf⟩; refine Hid.out ?_)
  have HR4 := Lib.hid hr
  have HF4 := Lib.hid hf
  clear hr hf HRM
  refine Lib.hid ?_
  go_wp2_with fail
  go_ret2
  rw [HY.out, HVn.out]
  refine ⟨x, v', rfl, ?_, fun g hg hv => ?_, ?_, HF3.out.trans HF4.out⟩
  · show KOwns KB w.heap.size x ((q.drop 4).take V) W4
    rw [← HZ4.out]
    exact KOwns.mono (HX3.out.at fun g hg => HF4.out.keep g (HLT3.out g hg).2 (by have := (HLT3.out g hg).1; have := HS3.out; omega) fun e => by have := (HLT3.out g hg).1; have := HLT0.out g e; have := HSZ.out; omega) HSZ.out
  · have h3 := HLT3.out g hg
    rcases HF4.out.own g hv with e | e
    · have := HLT0.out g e; have := HSZ.out; omega
    · omega
  · show RdA b v' (q.drop (4 + V)) false W4
    rw [← HZ.out]
    exact HR4.out
/-- Next -/
theorem fnext_any (b : Nat) (v : Value) (q : List Int) (bad : Bool) (hlen : q.length ≤ 1000000) (hb : ByL q) (w : World) (h : RdA b v q bad w) :
    Calls Try.prog 11 #[.pointer (some ⟨b, 0, none⟩)] w (NxRet b v w (nxt q bad)) := by
  cases bad
  · exact fnext_good b v q hlen hb w h
  · exact fnext_bad b v q w h
end Go.Proofs.Ytdcekbmoihmjkaa
