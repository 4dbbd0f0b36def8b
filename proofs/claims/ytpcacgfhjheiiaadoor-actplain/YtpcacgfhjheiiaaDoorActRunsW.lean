/-
  The walk of the law ActRuns.
-/
import Derived.Test.YtpcacgfhjheiiaaDoorActAns
namespace Go.Proofs.YtpcacgfhjheiiaaDoor
open Go.RowKit

theorem sendFields : ∃ f g : Field, (Tryd.prog.fieldsOf 32).toList = [f, g] ∧ f.name ≠ "_" ∧ f.type = 3 ∧ f.offset = 0 ∧ g.name ≠ "_" ∧ g.type = 25 ∧ g.offset = 1 :=
  ⟨_, _, rfl, by decide, rfl, rfl, by decide, rfl, rfl⟩
theorem partS0 (a : Sn) (w : World) : (part 3 (sna a) 0).run Tryd.prog w = .ok (.int .i64 a.p) w := by kernel_rfl
theorem partS1 (a : Sn) (w : World) : (part 25 (sna a) 1).run Tryd.prog w = .ok (.agg (hc a.h)) w := by kernel_rfl
/-- is the same sent? -/
def sEq (a b : Sn) : Bool := a.p == b.p && hEq a.h b.h
theorem eqlHc (d : Nat) (a b : Nat → Int) (w : World) : (Op.equalIn (d + 2) 25 (.agg (hc a)) (.agg (hc b))).run Tryd.prog w = .ok (hEq a b) w := by
  obtain ⟨i, hi⟩ := infoU64
  rw [run_equalIn_array w (d + 1) (hc a) (hc b) Tryd.underlying25 hi, cU64]
  exact eqItems_head a b d w (List.range 12) fun i hi => by simpa using hi
theorem eql_send (a b : Sn) (w : World) : (Op.equalIn 10000 32 (.agg (sna a)) (.agg (sna b))).run Tryd.prog w = .ok (sEq a b) w := by
  obtain ⟨f, g, hf, f1, f2, f3, g1, g2, g3⟩ := sendFields
  rw [run_equalIn_struct w 9999 32 (sna a) (sna b) (by kernel_rfl) (by kernel_rfl), hf]
  have hI : ∀ x y : Int, (Op.equalIn 9999 3 (.int .i64 x) (.int .i64 y)).run Tryd.prog w = .ok (x == y) w := fun x y => run_equalIn_int w 9998 3 .i64 .i64 x y Tryd.underlying3
  unfold sEq
  simp only [Op.eqFields, f1, f2, f3, g1, g2, g3, ne_eq, not_false_eq_true, if_true, Sem.run_bind, partS0, Result.andThen_ok, hI]
  cases e1 : a.p == b.p
  · simp
  · simp only [Bool.not_true, Bool.false_eq_true, if_false, Sem.run_bind, partS1, Result.andThen_ok, eqlHc 9997]
    cases e2 : hEq a.h b.h <;> simp
theorem guardSend : Tryd.prog.eqGuardType Tryd.prog.depth 32 = false := by kernel_rfl
theorem sEq_refl (a : Sn) : sEq a a = true := by simp [sEq, hEq_refl]
theorem sndB_upd {h : Nat → Int} (hs : sndB h = true) {n : Nat} {x : Int} (hf : fitB n x = true) : sndB (upd h n x) = true := by
  unfold sndB at *
  rw [List.all_eq_true] at *
  intro j hj
  unfold upd
  split
  · rename_i e; subst e; exact hf
  · exact hs j hj
theorem stepH_snd {h : Nat → Int} {a : Ac} (ha : sndA a = true) (hs : sndB h = true) : sndB (stepH h a) = true := by
  rcases snd_cases' ha with ⟨p, rfl, _, _⟩ | ⟨f, v, rfl, e⟩ | rfl
  · exact hs
  · obtain ⟨k, rfl, hk, hf⟩ := setE_zero e
    exact sndB_upd hs hf
  · exact hs
theorem runS_snd : ∀ (l : List Ac) (h : Nat → Int), l.all sndA = true → sndB h = true → ∀ s ∈ runS h l, sndB s.h = true
  | [], _, _, _, s, hs => by simp [runS] at hs
  | a :: l, h, hl, hh, s, hs => by
    rw [List.all_cons, Bool.and_eq_true] at hl
    simp only [runS, List.mem_append] at hs
    rcases hs with hs | hs
    · unfold stepS at hs
      split at hs
      · simp only [List.mem_cons, List.not_mem_nil, or_false] at hs
        subst hs
        exact hh
      · cases hs
    · exact runS_snd l _ hl.2 (stepH_snd hl.1 hh) s hs
theorem runV_snd {l : List Ac} {h : Nat → Int} (hh : sndB h = true) : ∀ s ∈ runV l h, sndB s.h = true := by
  intro s hs
  unfold runV at hs
  split at hs
  · rename_i e
    rw [sndAL, Bool.and_eq_true] at e
    exact runS_snd l h e.2 hh s hs
  · cases hs
theorem runS_len : ∀ (l : List Ac) (h : Nat → Int), (runS h l).length ≤ l.length
  | [], _ => by simp [runS]
  | a :: l, h => by
    have := runS_len l (stepH h a)
    simp only [runS, List.length_append, List.length_cons]
    have : (stepS h a).length ≤ 1 := by unfold stepS; split <;> simp
    omega
theorem runV_len (l : List Ac) (h : Nat → Int) : (runV l h).length ≤ l.length := by
  unfold runV
  split
  · exact runS_len l h
  · simp
/-- what the law has in memory -/
def RnS (w0 : World) (v : Value) (l : List Ac) (h : Nat → Int) (W : World) : Prop := KLies KA v l W ∧ Blk w0.heap.size (hc h) 25 W ∧ Below w0.heap.size w0 W
theorem RnS.below {w0 : World} {v : Value} {l : List Ac} {h : Nat → Int} {W W' : World} (hb : Below W.heap.size W W') (s : RnS w0 v l h W) : RnS w0 v l h W' := ⟨s.1.below okA hb, s.2.1.below hb, s.2.2.trans (hb.mono s.2.2.size)⟩
def RuS (w0 : World) (vs vt : Value) (L : List Sn) (h : Nat → Int) (W : World) : Prop := KLies KS vs L W ∧ KLies KS vt L W ∧ Blk w0.heap.size (hc h) 25 W ∧ Below w0.heap.size w0 W
theorem RuS.below {w0 : World} {vs vt : Value} {L : List Sn} {h : Nat → Int} {W W' : World} (hb : Below W.heap.size W W') (s : RuS w0 vs vt L h W) : RuS w0 vs vt L h W' := ⟨s.1.below okS hb, s.2.1.below okS hb, s.2.2.1.below hb, s.2.2.2.trans (hb.mono s.2.2.2.size)⟩
set_option maxHeartbeats 1000000 in
set_option maxRecDepth 100000 in
theorem actRuns_many (p : Option Addr) (cp n : Nat) (h : Nat → Int) (w0 : World) (ht : Tab w0) (hz : 0 < w0.heap.size) (hn : ¬ n ≤ 50) :
    Calls Tryd.prog 3 #[.slice p n cp, .agg (hc h)] w0 fun e w' => e = .returned (.bool true) ∧ Below w0.heap.size w0 w' := by
  have hE := (Env.start ht hz).alloc (.cells (hc h) 25)
  have HA := Lib.hid (aanswers _ hE.tab hE.lt)
  have HE := Lib.hid hE
  have hI : (50 : Int) < (n : Int) := by omega
  clear ht hE hn
  go_enter Tryd.func3, Tryd.ntmps3
  go_wp2_with (go_at_call 7; refine HA.out.mono ?_; rintro e w1 ⟨rfl, hw1⟩)
  go_ret
  exact ⟨rfl, (HE.out.below hw1).kept⟩
set_option maxHeartbeats 8000000 in
set_option maxRecDepth 100000 in
theorem actRuns_few (p : Option Addr) (cp : Nat) (l : List Ac) (h : Nat → Int) (hlen : l.length ≤ 50) (hw : WfAL l) (w0 : World) (hl : KLies KA (.slice p l.length cp) l w0) (ht : Tab w0) (hz : 0 < w0.heap.size) :
    Calls Tryd.prog 3 #[.slice p l.length cp, .agg (hc h)] w0 fun e w' => e = .returned (.bool true) ∧ Below w0.heap.size w0 w' := by
  have hE := Env.start ht hz
  have HA := Lib.hid (fun (W : World) (hb : Below w0.heap.size w0 W) => aanswers W (hE.predK W hb).1 (hE.predK W hb).2)
  have HRu := Lib.hid (fun (v : Value) (W : World) (lv : KLies KA v l W) (hb : Below w0.heap.size w0 W) => run_any v l h (by omega) hw W lv (hE.predK W hb).1 (hE.predK W hb).2)
  have HRr := Lib.hid (fun (v : Value) (W : World) (lv : KLies KA v l W) => rrun_any v l h (by omega) hw W lv)
  have HSo := Lib.hid (fun (v : Value) (W : World) (lv : KLies KA v l W) (hb : Below w0.heap.size w0 W) => asound_any v l (by omega) hw W lv (hE.predK W hb).1 (hE.predK W hb).2)
  have HRa := Lib.hid (fun (v : Value) (W : World) (lv : KLies KA v l W) => racts_any v l (by omega) hw W lv)
  have HHd := Lib.hid (fun (W : World) => rhead_any h W)
  have HS1 := Lib.hid (show RnS w0 (.slice p l.length cp) l h (w0.alloc (.cells (hc h) 25)) from ⟨hl.below okA (below1 _ _), Blk.new _ _ _, below1 _ _⟩)
  have HSn := Lib.hid (runV_snd (l := l) (h := h))
  have HLn := Lib.hid (Nat.le_trans (runV_len l h) hlen)
  have hI : ¬ (50 : Int) < (l.length : Int) := by omega
  clear hl hw ht hE
  go_enter Tryd.func3, Tryd.ntmps3
  go_upto_region 3 with (fail)
  clear hI
  generalize w0.alloc (.cells (hc h) 25) = W0 at *
  have HS2 := Lib.hid (RnS.below (Below.refl _ _).drew HS1.out)
  clear HS1
  refine wp_region_held_drew (S := RnS w0 (.slice p l.length cp) l h) (by kernel_rfl) HS2.out (fun hS => ?_)
  generalize W0.drew = W at *
  have HSW := HS2
  clear HS2
  refine seqRead 1 (v := _) rfl (by kernel_rfl) (by kernel_rfl) (by kernel_rfl) (fun _ _ _ h => h) rfl (fun w hSw => by go_simp <;> with_reducible rfl) hS ?_
  try simp only [Act.put, List.setIfInBounds_toArray, List.set_cons_zero, List.set_cons_succ]
  refine seqRead 3 (v := _) rfl (by kernel_rfl) (by kernel_rfl) (by kernel_rfl) (fun _ _ _ h => h) rfl (fun w hSw => execRow0 rfl _ rfl hSw.2.1 Tryd.underlying25 rfl (by kernel_rfl)) hS ?_
  try simp only [Act.put, List.setIfInBounds_toArray, List.set_cons_zero, List.set_cons_succ]
  refine seqCall 0 rfl (by kernel_rfl) rfl (fun K hK => ?_)
  refine kbuildNoneWp KA okA rfl ?_
  have HO := Lib.hid (KOwns.built (K := KA) W W.heap.size (Nat.le_refl _))
  refine hK.out _ _ (RnS.below (below1 _ _) hS) (fun hS => ?_)
  clear hK K
  try simp only [Act.put, List.setIfInBounds_toArray, List.set_cons_zero, List.set_cons_succ]
  refine seqCall 2 rfl (by kernel_rfl) rfl (fun K hK => ?_)
  refine kappendWp KA okA (.tmp 15) (.tmp 16) rfl W.heap.size _ [] l rfl HO.out _ rfl hS.1 (by simp) (by simp; omega) (fun v5 w5 ho5 hg5 => ?_)
  have H5 := Lib.hid (show KLies KA v5 l w5 from ho5.lies okA)
  have HB5 := kbelowOwn (below1 W (.cells #[] 38)) HO.out (Nat.le_refl _) hg5
  have S5 := RnS.below HB5 HSW.out
  clear ho5 hg5 HO HSW HB5
  refine hK.out _ _ S5 (fun hS => ?_)
  clear hK K S5
  try simp only [Act.put, List.setIfInBounds_toArray, List.set_cons_zero, List.set_cons_succ]
  refine seqCall 4 rfl (by kernel_rfl) rfl (fun K hK => ?_)
  go_simp
  refine (HRu.out _ _ H5.out hS.2.2).mono ?_
  rintro e w6 ⟨vs, rfl, ho6, hb6⟩
  have HO6 := Lib.hid (show KLies KS vs (runV l h) w6 from ho6.lies okS)
  refine hK.out _ _ (RnS.below hb6 hS) (fun hS => ?_)
  clear hK K ho6 hb6 H5
  try simp only [Act.put, List.setIfInBounds_toArray, List.set_cons_zero, List.set_cons_succ]
  refine seqRead 5 (v := _) rfl (by kernel_rfl) (by kernel_rfl) (by kernel_rfl) (fun _ _ _ h => h) rfl (fun w hSw => by go_simp <;> with_reducible rfl) hS ?_
  try simp only [Act.put, List.setIfInBounds_toArray, List.set_cons_zero, List.set_cons_succ]
  refine seqRead 6 (v := _) rfl (by kernel_rfl) (by kernel_rfl) (by kernel_rfl) (fun _ _ _ h => h) rfl (fun w hSw => by go_simp <;> with_reducible rfl) hS ?_
  try simp only [Act.put, List.setIfInBounds_toArray, List.set_cons_zero, List.set_cons_succ]
  refine seqRead 7 (v := _) rfl (by kernel_rfl) (by kernel_rfl) (by kernel_rfl) (fun _ _ _ h => h) rfl (fun w hSw => by go_simp <;> with_reducible rfl) hS ?_
  try simp only [Act.put, List.setIfInBounds_toArray, List.set_cons_zero, List.set_cons_succ]
  refine seqRead 8 (v := _) rfl (by kernel_rfl) (by kernel_rfl) (by kernel_rfl) (fun _ _ _ h => h) rfl (fun w hSw => by go_simp <;> with_reducible rfl) hS ?_
  try simp only [Act.put, List.setIfInBounds_toArray, List.set_cons_zero, List.set_cons_succ]
  refine seqRead 9 (v := _) rfl (by kernel_rfl) (by kernel_rfl) (by kernel_rfl) (fun _ _ _ h => h) rfl (fun w hSw => by go_simp <;> with_reducible rfl) hS ?_
  try simp only [Act.put, List.setIfInBounds_toArray, List.set_cons_zero, List.set_cons_succ]
  refine seqDone (by kernel_rfl) ?_
  generalize hL : runV l h = L at *
  generalize hB : runB l = B at *
  obtain ⟨ps, cs, rfl⟩ := HO6.out.form
  have HS3 := Lib.hid hS
  clear hS
  go_upto_region 5 with (first
    | (refine wpList_load_row rfl 25 (.tmp 3) rfl w0.heap.size rfl 25 (hc h) (0, 0) _ HS3.out.2.1 Tryd.underlying25 rfl (by kernel_rfl) ?_)
    | (go_at_call 9; refine (HRr.out _ _ HS3.out.1).mono ?_; rintro e w7 ⟨vt, rfl, ho7, hb7⟩))
  have HS4 := Lib.hid (RnS.below hb7 HS3.out)
  have HSs := Lib.hid (HO6.out.below okS hb7)
  have HSt := Lib.hid (ho7.lies okS)
  obtain ⟨pt, ct, rfl⟩ := HSt.out.form
  clear HS3 HO6 ho7 hb7 HRr hL hB HRu
  have hbb : (B != B) = false := by simp
  have hll : ((L.length : Int) != (L.length : Int)) = false := by simp
  generalize hy : sndAL l = y at *
  have hyy : (y != y) = false := by simp
  go_upto_if 48 with (first
    | (go_at_call 7; refine (HA.out _ HS4.out.2.2).mono ?_; rintro e w8 ⟨rfl, hw8⟩; have HS5 := Lib.hid (RnS.below hw8 HS4.out); have HU5 := Lib.hid (And.intro (HSs.out.below okS hw8) (HSt.out.below okS hw8)); clear hw8)
    | (go_at_call 10; refine (HSo.out _ _ HS5.out.1 HS5.out.2.2).mono ?_; rintro e w9 ⟨rfl, hw9⟩; have HS6 := Lib.hid (RnS.below hw9 HS5.out); have HU6 := Lib.hid (And.intro (HU5.out.1.below okS hw9) (HU5.out.2.below okS hw9)); clear hw9)
    | (go_at_call 11; refine (HRa.out _ _ HS6.out.1).mono ?_; rintro e w10 ⟨rfl, hw10⟩; have HS7 := Lib.hid (RnS.below hw10 HS6.out); have HU7 := Lib.hid (And.intro (HU6.out.1.below okS hw10) (HU6.out.2.below okS hw10)); clear hw10))
  have HSU := Lib.hid (show RuS w0 (.slice ps L.length cs) (.slice pt L.length ct) L h w10 from ⟨HU7.out.1, HU7.out.2, HS7.out.2.1, HS7.out.2.2⟩)
  clear HS4 HSs HSt HS5 HU5 HS6 HU6 HS7 HU7 HSo HRa HA hy hyy hbb hll
  go_wp2_with fail
  go_loopg [9] L.length (fun kk i wr => ∃ r : Nat, r + kk = L.length ∧ i = .int .i64 r ∧ RuS w0 (.slice ps L.length cs) (.slice pt L.length ct) L h wr)
  case atStart => exact ⟨0, by omega, rfl, HSU.out⟩
  case round =>
    clear HSU
    obtain ⟨r, hr, rfl, hS0⟩ := hrel
    have HS0 := Lib.hid hS0
    clear hS0
    by_cases hlt : r < L.length
    · have hltI : (r : Int) < (L.length : Int) := by omega
      have hdI : decide ((r : Int) < (L.length : Int)) = true := decide_eq_true hltI
      have hln := HLn.out
      obtain ⟨c, hc'⟩ := lt_some hlt
      obtain ⟨b1, o1, rfl, _⟩ := HS0.out.1.at hc'
      obtain ⟨b2, o2, rfl, _⟩ := HS0.out.2.1.at hc'
      have HC := Lib.hid hc'
      have HHc := Lib.hid (fun (W : World) => rhead_any c.h W)
      have HMm := Lib.hid (List.mem_of_getElem? hc')
      clear hc'
      have heq : ∀ w, (Op.equalIn 10000 32 (.agg (snl c).toArray) (.agg (snl c).toArray)).run Tryd.prog w = .ok true w := fun w => (eql_send c c w).trans (by rw [sEq_refl])
      have hgd := guardSend
      go_upto_region 10 with (fail)
      refine wp_region_held_drew (S := RuS w0 (.slice (some ⟨b1, o1, none⟩) L.length cs) (.slice (some ⟨b2, o2, none⟩) L.length ct) L h) (by kernel_rfl) (RuS.below (Below.refl _ _).drew HS0.out) (fun hS => ?_)
      clear HS0
      generalize wr.drew = W at *
      cases hy : sndB h
      · rw [hy] at HHd
        clear hy
        refine seqRead 0 (v := _) rfl (by kernel_rfl) (by kernel_rfl) (by kernel_rfl) (fun _ _ _ h => h) rfl (fun w hSw => by go_simp <;> with_reducible rfl) hS ?_
        try simp only [Act.put, List.setIfInBounds_toArray, List.set_cons_zero, List.set_cons_succ]
        refine seqRead 1 (v := _) rfl (by kernel_rfl) (by kernel_rfl) (by kernel_rfl) (fun _ _ _ h => h) rfl (fun w hSw => by go_simp <;> with_reducible rfl) hS ?_
        try simp only [Act.put, List.setIfInBounds_toArray, List.set_cons_zero, List.set_cons_succ]
        refine seqRead 2 (v := _) rfl (by kernel_rfl) (by kernel_rfl) (by kernel_rfl) (fun _ _ _ h => h) rfl (fun w hSw => by go_simp <;> with_reducible rfl) hS ?_
        try simp only [Act.put, List.setIfInBounds_toArray, List.set_cons_zero, List.set_cons_succ]
        refine seqRead 3 (v := _) rfl (by kernel_rfl) (by kernel_rfl) (by kernel_rfl) (fun _ _ _ h => h) rfl (fun w hSw => execRow rfl b1 (o1 + r * 13) rfl (snl c) _ (hSw.1.at' HC.out) Tryd.underlying32 rfl infoS) hS ?_
        try simp only [Act.put, List.setIfInBounds_toArray, List.set_cons_zero, List.set_cons_succ]
        refine seqRead 4 (v := _) rfl (by kernel_rfl) (by kernel_rfl) (by kernel_rfl) (fun _ _ _ h => h) rfl (fun w hSw => by go_simp <;> with_reducible rfl) hS ?_
        try simp only [Act.put, List.setIfInBounds_toArray, List.set_cons_zero, List.set_cons_succ]
        refine seqRead 5 (v := _) rfl (by kernel_rfl) (by kernel_rfl) (by kernel_rfl) (fun _ _ _ h => h) rfl (fun w hSw => by go_simp <;> with_reducible rfl) hS ?_
        try simp only [Act.put, List.setIfInBounds_toArray, List.set_cons_zero, List.set_cons_succ]
        refine seqRead 6 (v := _) rfl (by kernel_rfl) (by kernel_rfl) (by kernel_rfl) (fun _ _ _ h => h) rfl (fun w hSw => by go_simp <;> with_reducible rfl) hS ?_
        try simp only [Act.put, List.setIfInBounds_toArray, List.set_cons_zero, List.set_cons_succ]
        refine seqRead 7 (v := _) rfl (by kernel_rfl) (by kernel_rfl) (by kernel_rfl) (fun _ _ _ h => h) rfl (fun w hSw => execRow rfl b2 (o2 + r * 13) rfl (snl c) _ (hSw.2.1.at' HC.out) Tryd.underlying32 rfl infoS) hS ?_
        try simp only [Act.put, List.setIfInBounds_toArray, List.set_cons_zero, List.set_cons_succ]
        refine seqRead 8 (v := _) rfl (by kernel_rfl) (by kernel_rfl) (by kernel_rfl) (fun _ _ _ h => h) rfl (fun w hSw => by go_simp <;> with_reducible rfl) hS ?_
        try simp only [Act.put, List.setIfInBounds_toArray, List.set_cons_zero, List.set_cons_succ]
        refine seqRead 9 (v := _) rfl (by kernel_rfl) (by kernel_rfl) (by kernel_rfl) (fun _ _ _ h => h) rfl (fun w hSw => by go_simp <;> with_reducible rfl) hS ?_
        try simp only [Act.put, List.setIfInBounds_toArray, List.set_cons_zero, List.set_cons_succ]
        refine seqRead 10 (v := _) rfl (by kernel_rfl) (by kernel_rfl) (by kernel_rfl) (fun _ _ _ h => h) rfl (fun w hSw => execRow0 rfl _ rfl hSw.2.2.1 Tryd.underlying25 rfl (by kernel_rfl)) hS ?_
        try simp only [Act.put, List.setIfInBounds_toArray, List.set_cons_zero, List.set_cons_succ]
        refine seqCall 11 rfl (by kernel_rfl) rfl (fun K hK => ?_)
        go_simp
        refine (HHd.out _).mono ?_
        rintro e w5 ⟨rfl, hw5⟩
        refine hK.out _ _ (RuS.below hw5 hS) (fun hS => ?_)
        clear hK K hw5
        try simp only [Act.put, List.setIfInBounds_toArray, List.set_cons_zero, List.set_cons_succ]
        refine seqRead 12 (v := _) rfl (by kernel_rfl) (by kernel_rfl) (by kernel_rfl) (fun _ _ _ h => h) rfl (fun w hSw => by go_simp <;> with_reducible rfl) hS ?_
        try simp only [Act.put, List.setIfInBounds_toArray, List.set_cons_zero, List.set_cons_succ]
        refine seqSkip 13 rfl (by kernel_rfl) (by kernel_rfl) (by kernel_rfl) (fun _ _ _ h => h) rfl hS ?_
        try simp only [Act.put, List.setIfInBounds_toArray, List.set_cons_zero, List.set_cons_succ]
        refine seqSkip 14 rfl (by kernel_rfl) (by kernel_rfl) (by kernel_rfl) (fun _ _ _ h => h) rfl hS ?_
        try simp only [Act.put, List.setIfInBounds_toArray, List.set_cons_zero, List.set_cons_succ]
        refine seqSkip 15 rfl (by kernel_rfl) (by kernel_rfl) (by kernel_rfl) (fun _ _ _ h => h) rfl hS ?_
        try simp only [Act.put, List.setIfInBounds_toArray, List.set_cons_zero, List.set_cons_succ]
        refine seqSkip 16 rfl (by kernel_rfl) (by kernel_rfl) (by kernel_rfl) (fun _ _ _ h => h) rfl hS ?_
        try simp only [Act.put, List.setIfInBounds_toArray, List.set_cons_zero, List.set_cons_succ]
        refine seqSkip 17 rfl (by kernel_rfl) (by kernel_rfl) (by kernel_rfl) (fun _ _ _ h => h) rfl hS ?_
        try simp only [Act.put, List.setIfInBounds_toArray, List.set_cons_zero, List.set_cons_succ]
        refine seqSkip 18 rfl (by kernel_rfl) (by kernel_rfl) (by kernel_rfl) (fun _ _ _ h => h) rfl hS ?_
        try simp only [Act.put, List.setIfInBounds_toArray, List.set_cons_zero, List.set_cons_succ]
        refine seqSkip 19 rfl (by kernel_rfl) (by kernel_rfl) (by kernel_rfl) (fun _ _ _ h => h) rfl hS ?_
        try simp only [Act.put, List.setIfInBounds_toArray, List.set_cons_zero, List.set_cons_succ]
        refine seqRead 20 (v := _) rfl (by kernel_rfl) (by kernel_rfl) (by kernel_rfl) (fun _ _ _ h => h) rfl (fun w hSw => by go_simp <;> with_reducible rfl) hS ?_
        try simp only [Act.put, List.setIfInBounds_toArray, List.set_cons_zero, List.set_cons_succ]
        refine seqRead 21 (v := _) rfl (by kernel_rfl) (by kernel_rfl) (by kernel_rfl) (fun _ _ _ h => h) rfl (fun w hSw => by go_simp <;> with_reducible rfl) hS ?_
        try simp only [Act.put, List.setIfInBounds_toArray, List.set_cons_zero, List.set_cons_succ]
        refine seqDone (by kernel_rfl) ?_
        have HS2 := Lib.hid hS
        clear hS heq hgd hdI
        go_wp2_with fail
        go_roundg (L.length - (r + 1))
        case measure => omega
        case rel => exact ⟨r + 1, by omega, by go_num, HS2.out⟩
      · have hz' := HSn.out hy c HMm.out
        rw [hy] at HHd
        rw [hz'] at HHc
        clear hy hz'
        refine seqRead 0 (v := _) rfl (by kernel_rfl) (by kernel_rfl) (by kernel_rfl) (fun _ _ _ h => h) rfl (fun w hSw => by go_simp <;> with_reducible rfl) hS ?_
        try simp only [Act.put, List.setIfInBounds_toArray, List.set_cons_zero, List.set_cons_succ]
        refine seqRead 1 (v := _) rfl (by kernel_rfl) (by kernel_rfl) (by kernel_rfl) (fun _ _ _ h => h) rfl (fun w hSw => by go_simp <;> with_reducible rfl) hS ?_
        try simp only [Act.put, List.setIfInBounds_toArray, List.set_cons_zero, List.set_cons_succ]
        refine seqRead 2 (v := _) rfl (by kernel_rfl) (by kernel_rfl) (by kernel_rfl) (fun _ _ _ h => h) rfl (fun w hSw => by go_simp <;> with_reducible rfl) hS ?_
        try simp only [Act.put, List.setIfInBounds_toArray, List.set_cons_zero, List.set_cons_succ]
        refine seqRead 3 (v := _) rfl (by kernel_rfl) (by kernel_rfl) (by kernel_rfl) (fun _ _ _ h => h) rfl (fun w hSw => execRow rfl b1 (o1 + r * 13) rfl (snl c) _ (hSw.1.at' HC.out) Tryd.underlying32 rfl infoS) hS ?_
        try simp only [Act.put, List.setIfInBounds_toArray, List.set_cons_zero, List.set_cons_succ]
        refine seqRead 4 (v := _) rfl (by kernel_rfl) (by kernel_rfl) (by kernel_rfl) (fun _ _ _ h => h) rfl (fun w hSw => by go_simp <;> with_reducible rfl) hS ?_
        try simp only [Act.put, List.setIfInBounds_toArray, List.set_cons_zero, List.set_cons_succ]
        refine seqRead 5 (v := _) rfl (by kernel_rfl) (by kernel_rfl) (by kernel_rfl) (fun _ _ _ h => h) rfl (fun w hSw => by go_simp <;> with_reducible rfl) hS ?_
        try simp only [Act.put, List.setIfInBounds_toArray, List.set_cons_zero, List.set_cons_succ]
        refine seqRead 6 (v := _) rfl (by kernel_rfl) (by kernel_rfl) (by kernel_rfl) (fun _ _ _ h => h) rfl (fun w hSw => by go_simp <;> with_reducible rfl) hS ?_
        try simp only [Act.put, List.setIfInBounds_toArray, List.set_cons_zero, List.set_cons_succ]
        refine seqRead 7 (v := _) rfl (by kernel_rfl) (by kernel_rfl) (by kernel_rfl) (fun _ _ _ h => h) rfl (fun w hSw => execRow rfl b2 (o2 + r * 13) rfl (snl c) _ (hSw.2.1.at' HC.out) Tryd.underlying32 rfl infoS) hS ?_
        try simp only [Act.put, List.setIfInBounds_toArray, List.set_cons_zero, List.set_cons_succ]
        refine seqRead 8 (v := _) rfl (by kernel_rfl) (by kernel_rfl) (by kernel_rfl) (fun _ _ _ h => h) rfl (fun w hSw => by go_simp <;> with_reducible rfl) hS ?_
        try simp only [Act.put, List.setIfInBounds_toArray, List.set_cons_zero, List.set_cons_succ]
        refine seqRead 9 (v := _) rfl (by kernel_rfl) (by kernel_rfl) (by kernel_rfl) (fun _ _ _ h => h) rfl (fun w hSw => by go_simp <;> with_reducible rfl) hS ?_
        try simp only [Act.put, List.setIfInBounds_toArray, List.set_cons_zero, List.set_cons_succ]
        refine seqRead 10 (v := _) rfl (by kernel_rfl) (by kernel_rfl) (by kernel_rfl) (fun _ _ _ h => h) rfl (fun w hSw => execRow0 rfl _ rfl hSw.2.2.1 Tryd.underlying25 rfl (by kernel_rfl)) hS ?_
        try simp only [Act.put, List.setIfInBounds_toArray, List.set_cons_zero, List.set_cons_succ]
        refine seqCall 11 rfl (by kernel_rfl) rfl (fun K hK => ?_)
        go_simp
        refine (HHd.out _).mono ?_
        rintro e w5 ⟨rfl, hw5⟩
        refine hK.out _ _ (RuS.below hw5 hS) (fun hS => ?_)
        clear hK K hw5
        try simp only [Act.put, List.setIfInBounds_toArray, List.set_cons_zero, List.set_cons_succ]
        refine seqRead 12 (v := _) rfl (by kernel_rfl) (by kernel_rfl) (by kernel_rfl) (fun _ _ _ h => h) rfl (fun w hSw => by go_simp <;> with_reducible rfl) hS ?_
        try simp only [Act.put, List.setIfInBounds_toArray, List.set_cons_zero, List.set_cons_succ]
        refine seqRead 13 (v := _) rfl (by kernel_rfl) (by kernel_rfl) (by kernel_rfl) (fun _ _ _ h => h) rfl (fun w hSw => by go_simp <;> with_reducible rfl) hS ?_
        try simp only [Act.put, List.setIfInBounds_toArray, List.set_cons_zero, List.set_cons_succ]
        refine seqRead 14 (v := _) rfl (by kernel_rfl) (by kernel_rfl) (by kernel_rfl) (fun _ _ _ h => h) rfl (fun w hSw => by go_simp <;> with_reducible rfl) hS ?_
        try simp only [Act.put, List.setIfInBounds_toArray, List.set_cons_zero, List.set_cons_succ]
        refine seqRead 15 (v := _) rfl (by kernel_rfl) (by kernel_rfl) (by kernel_rfl) (fun _ _ _ h => h) rfl (fun w hSw => by go_simp <;> with_reducible rfl) hS ?_
        try simp only [Act.put, List.setIfInBounds_toArray, List.set_cons_zero, List.set_cons_succ]
        refine seqRead 16 (v := _) rfl (by kernel_rfl) (by kernel_rfl) (by kernel_rfl) (fun _ _ _ h => h) rfl (fun w hSw => by go_simp <;> with_reducible rfl) hS ?_
        try simp only [Act.put, List.setIfInBounds_toArray, List.set_cons_zero, List.set_cons_succ]
        refine seqRead 17 (v := _) rfl (by kernel_rfl) (by kernel_rfl) (by kernel_rfl) (fun _ _ _ h => h) rfl (fun w hSw => execRow rfl b1 (o1 + r * 13 + 1) rfl (hl c.h) _ (cellsS (hSw.1.at' HC.out)).2 Tryd.underlying25 rfl infoHead) hS ?_
        try simp only [Act.put, List.setIfInBounds_toArray, List.set_cons_zero, List.set_cons_succ]
        refine seqCall 18 rfl (by kernel_rfl) rfl (fun K hK => ?_)
        go_simp
        refine (HHc.out _).mono ?_
        rintro e w6 ⟨rfl, hw6⟩
        refine hK.out _ _ (RuS.below hw6 hS) (fun hS => ?_)
        clear hK K hw6
        try simp only [Act.put, List.setIfInBounds_toArray, List.set_cons_zero, List.set_cons_succ]
        refine seqRead 19 (v := _) rfl (by kernel_rfl) (by kernel_rfl) (by kernel_rfl) (fun _ _ _ h => h) rfl (fun w hSw => by go_simp <;> with_reducible rfl) hS ?_
        try simp only [Act.put, List.setIfInBounds_toArray, List.set_cons_zero, List.set_cons_succ]
        refine seqRead 20 (v := _) rfl (by kernel_rfl) (by kernel_rfl) (by kernel_rfl) (fun _ _ _ h => h) rfl (fun w hSw => by go_simp <;> with_reducible rfl) hS ?_
        try simp only [Act.put, List.setIfInBounds_toArray, List.set_cons_zero, List.set_cons_succ]
        refine seqRead 21 (v := _) rfl (by kernel_rfl) (by kernel_rfl) (by kernel_rfl) (fun _ _ _ h => h) rfl (fun w hSw => by go_simp <;> with_reducible rfl) hS ?_
        try simp only [Act.put, List.setIfInBounds_toArray, List.set_cons_zero, List.set_cons_succ]
        refine seqDone (by kernel_rfl) ?_
        have HS2 := Lib.hid hS
        clear hS heq hgd hdI
        go_wp2_with fail
        go_roundg (L.length - (r + 1))
        case measure => omega
        case rel => exact ⟨r + 1, by omega, by go_num, HS2.out⟩
    · have hltI : ¬ (r : Int) < (L.length : Int) := by omega
      have HF := Lib.hid HS0.out.2.2.2
      clear HS0
      go_wp2_with fail
      go_ret
      exact ⟨rfl, HF.out⟩
theorem actRuns_any (v : Value) (l : List Ac) (hw : WfAL l) (h : Nat → Int) (w0 : World) (hl : KLies KA v l w0) (ht : Tab w0) (hz : 0 < w0.heap.size) :
    Calls Tryd.prog 3 #[v, .agg (hc h)] w0 fun e w' => e = .returned (.bool true) ∧ Below w0.heap.size w0 w' := by
  obtain ⟨p, cp, rfl⟩ := hl.form
  by_cases hn : l.length ≤ 50
  · exact actRuns_few p cp l h hn hw w0 hl ht hz
  · exact actRuns_many p cp l.length h w0 ht hz hn
end Go.Proofs.YtpcacgfhjheiiaaDoor
