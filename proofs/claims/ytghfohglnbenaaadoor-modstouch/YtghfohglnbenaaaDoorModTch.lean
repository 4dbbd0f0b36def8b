/-
  The walks of the functions that touchedBy gives, and of touchedBy.
-/
import Derived.Test.YtghfohglnbenaaaDoorModFun
namespace Go.Proofs.YtghfohglnbenaaaDoor
set_option maxRecDepth 20000
open Go.RowKit

/-- a change lies in a block, a rule in another -/
def TcS (B : Nat) (m : Mm) (b : Nat) (r : Rm) (W : World) : Prop := Blk B (mca m) 30 W ∧ Blk b (rca r) 44 W
theorem TcS.below {B b : Nat} {m : Mm} {r : Rm} {W W' : World} (hb : Below W.heap.size W W') (h : TcS B m b r W) : TcS B m b r W' := ⟨h.1.below hb, h.2.below hb⟩
set_option maxHeartbeats 1000000 in
theorem tch1_any (m : Mm) (B : Nat) (r : Rm) (hr : WfR r.u) (hm : WfM m.u) (w : World) (hB : Blk B (mca m) 30 w) (ht : Tab w) (hz : 0 < w.heap.size) :
    Calls Tryd.prog 59 #[.agg (rca r), .pointer (some ⟨B, 0, none⟩)] w fun e w' => e = .returned (.bool ((r.u.owner == m.u.owner) && inB r.u.m m.u.m)) ∧ Below w.heap.size w w' := by
  have RB := Lib.hid (hB.below (below1 w (.cells (rca r) 44)))
  have RR := Lib.hid (Blk.new w (rca r) 44)
  have HE := Lib.hid ((Env.start ht hz).alloc (.cells (rca r) 44))
  have HC := Lib.hid (cwithin_any r.u.m m.u.m (fun j => (hr.m j).1) (fun j => (hm.m j).1) _ HE.out.tab HE.out.lt)
  obtain ⟨ma, _, _, _, _, k28, _⟩ := RR.out.cellsR
  obtain ⟨_, mb, _, _, _, _, k29, _⟩ := RB.out.cellsM
  have MA := Lib.hid ma
  have MB := Lib.hid mb
  clear ht ma mb hr hm hB RB RR
  generalize inB r.u.m m.u.m = y at *
  by_cases ho : r.u.owner = m.u.owner
  · have hod : (r.u.owner == m.u.owner) = true := by simpa using ho
    rw [hod, Bool.true_and]
    go_enter Tryd.func59, Tryd.ntmps59
    go_wp2_with (first
      | (refine loadMidG rfl 27 (.tmp 10) rfl w.heap.size 0 rfl (cl r.u.m) _ MA.out Tryd.underlying27 rfl infoCube ?_)
      | (refine loadMidG rfl 27 (.tmp 12) rfl B 1 rfl (cl m.u.m) _ MB.out Tryd.underlying27 rfl infoCube ?_)
      | (go_at_call 60; refine HC.out.mono ?_; rintro e w1 ⟨rfl, hw1⟩))
    go_ret
    exact ⟨rfl, (HE.out.below hw1).kept⟩
  · have hod : (r.u.owner == m.u.owner) = false := by simpa using ho
    rw [hod, Bool.false_and]
    go_enter Tryd.func59, Tryd.ntmps59
    go_wp2
    go_ret
    exact ⟨rfl, HE.out.kept⟩
set_option maxHeartbeats 1000000 in
theorem tch2_any (m : Mm) (B : Nat) (r : Rm) (w : World) (hB : Blk B (mca m) 30 w) :
    Calls Tryd.prog 61 #[.agg (rca r), .pointer (some ⟨B, 0, none⟩)] w fun e w' => e = .returned (.bool ((r.u.owner == m.u.owner) && keyB r.u (newU m.u))) ∧ Below w.heap.size w w' := by
  have HS := Lib.hid (show TcS B m w.heap.size r (w.alloc (.cells (rca r) 44)) from ⟨hB.below (below1 w (.cells (rca r) 44)), Blk.new _ _ _⟩)
  have HB := Lib.hid (below1 w (.cells (rca r) 44))
  have HN := Lib.hid (fun W => ruleof_any m W)
  have HK := Lib.hid (fun W => key_any r (newR m) W)
  rw [show (newR m).u = newU m.u from rfl] at HK
  generalize keyB r.u (newU m.u) = y at *
  clear hB
  by_cases ho : r.u.owner = m.u.owner
  · have hod : (r.u.owner == m.u.owner) = true := by simpa using ho
    rw [hod, Bool.true_and]
    go_enter Tryd.func61, Tryd.ntmps61
    go_upto_region 1 with fail
    refine wp_region_held_drew (S := TcS B m w.heap.size r) (by kernel_rfl) (TcS.below (Below.refl _ _).drew HS.out) (fun hS => ?_)
    have HB1 := Lib.hid HB.out.drew
    clear HB HS
    generalize (w.alloc (.cells (rca r) 44)).drew = W at *
    refine seqRead 0 (v := _) rfl (by kernel_rfl) (by kernel_rfl) (by kernel_rfl) (fun _ _ _ h => h) rfl (fun w hSw => by go_simp <;> with_reducible rfl) hS ?_
    try simp only [Act.put, List.setIfInBounds_toArray, List.set_cons_zero, List.set_cons_succ]
    refine seqRead 1 (v := _) rfl (by kernel_rfl) (by kernel_rfl) (by kernel_rfl) (fun _ _ _ h => h) rfl (fun w hSw => by have hc := hSw.2.cellsR.2.2.2.2.2.1; go_simp <;> with_reducible rfl) hS ?_
    try simp only [Act.put, List.setIfInBounds_toArray, List.set_cons_zero, List.set_cons_succ]
    refine seqRead 2 (v := _) rfl (by kernel_rfl) (by kernel_rfl) (by kernel_rfl) (fun _ _ _ h => h) rfl (fun w hSw => by go_simp <;> with_reducible rfl) hS ?_
    try simp only [Act.put, List.setIfInBounds_toArray, List.set_cons_zero, List.set_cons_succ]
    refine seqRead 3 (v := _) rfl (by kernel_rfl) (by kernel_rfl) (by kernel_rfl) (fun _ _ _ h => h) rfl (fun w hSw => by have hc := hSw.1.cellsM.2.2.2.2.2.2.1; go_simp <;> with_reducible rfl) hS ?_
    try simp only [Act.put, List.setIfInBounds_toArray, List.set_cons_zero, List.set_cons_succ]
    refine seqRead 4 (v := _) rfl (by kernel_rfl) (by kernel_rfl) (by kernel_rfl) (fun _ _ _ h => h) rfl (fun w hSw => by go_simp <;> with_reducible rfl) hS ?_
    try simp only [Act.put, List.setIfInBounds_toArray, List.set_cons_zero, List.set_cons_succ]
    refine seqRead 5 (v := _) rfl (by kernel_rfl) (by kernel_rfl) (by kernel_rfl) (fun _ _ _ h => h) rfl (fun w hSw => by go_simp <;> with_reducible rfl) hS ?_
    try simp only [Act.put, List.setIfInBounds_toArray, List.set_cons_zero, List.set_cons_succ]
    refine seqRead 6 (v := _) rfl (by kernel_rfl) (by kernel_rfl) (by kernel_rfl) (fun _ _ _ h => h) rfl (fun w hSw => execRow0 rfl _ rfl hSw.2 Tryd.underlying44 rfl infoR) hS ?_
    try simp only [Act.put, List.setIfInBounds_toArray, List.set_cons_zero, List.set_cons_succ]
    refine seqRead 7 (v := _) rfl (by kernel_rfl) (by kernel_rfl) (by kernel_rfl) (fun _ _ _ h => h) rfl (fun w hSw => execRow0 rfl _ rfl hSw.1 Tryd.underlying30 rfl infoM) hS ?_
    try simp only [Act.put, List.setIfInBounds_toArray, List.set_cons_zero, List.set_cons_succ]
    refine seqCall 8 rfl (by kernel_rfl) rfl (fun K hK => ?_)
    go_simp
    refine (HN.out _).mono ?_
    rintro e w1 ⟨rfl, hw1⟩
    refine hK.out _ _ (TcS.below hw1 hS) (fun hS => ?_)
    clear hK K
    try simp only [Act.put, List.setIfInBounds_toArray, List.set_cons_zero, List.set_cons_succ]
    refine seqCall 9 rfl (by kernel_rfl) rfl (fun K hK => ?_)
    go_simp
    refine (HK.out _).mono ?_
    rintro e w2 ⟨rfl, hw2⟩
    refine hK.out _ _ (TcS.below hw2 hS) (fun hS => ?_)
    clear hK K
    try simp only [Act.put, List.setIfInBounds_toArray, List.set_cons_zero, List.set_cons_succ]
    refine seqRead 10 (v := _) rfl (by kernel_rfl) (by kernel_rfl) (by kernel_rfl) (fun _ _ _ h => h) rfl (fun w hSw => by go_simp <;> with_reducible rfl) hS ?_
    try simp only [Act.put, List.setIfInBounds_toArray, List.set_cons_zero, List.set_cons_succ]
    refine seqRead 11 (v := _) rfl (by kernel_rfl) (by kernel_rfl) (by kernel_rfl) (fun _ _ _ h => h) rfl (fun w hSw => by go_simp <;> with_reducible rfl) hS ?_
    try simp only [Act.put, List.setIfInBounds_toArray, List.set_cons_zero, List.set_cons_succ]
    refine seqDone (by kernel_rfl) ?_
    have HB2 := Lib.hid ((HB1.out.trans (hw1.mono HB1.out.size)).trans (hw2.mono (HB1.out.trans (hw1.mono HB1.out.size)).size))
    clear hS hw1 hw2
    go_wp2_with fail
    go_ret
    exact ⟨rfl, HB2.out⟩
  · have hod : (r.u.owner == m.u.owner) = false := by simpa using ho
    rw [hod, Bool.false_and]
    go_enter Tryd.func61, Tryd.ntmps61
    go_upto_region 1 with fail
    refine wp_region_held_drew (S := TcS B m w.heap.size r) (by kernel_rfl) (TcS.below (Below.refl _ _).drew HS.out) (fun hS => ?_)
    have HB1 := Lib.hid HB.out.drew
    clear HB HS
    generalize (w.alloc (.cells (rca r) 44)).drew = W at *
    refine seqRead 0 (v := _) rfl (by kernel_rfl) (by kernel_rfl) (by kernel_rfl) (fun _ _ _ h => h) rfl (fun w hSw => by go_simp <;> with_reducible rfl) hS ?_
    try simp only [Act.put, List.setIfInBounds_toArray, List.set_cons_zero, List.set_cons_succ]
    refine seqRead 1 (v := _) rfl (by kernel_rfl) (by kernel_rfl) (by kernel_rfl) (fun _ _ _ h => h) rfl (fun w hSw => by have hc := hSw.2.cellsR.2.2.2.2.2.1; go_simp <;> with_reducible rfl) hS ?_
    try simp only [Act.put, List.setIfInBounds_toArray, List.set_cons_zero, List.set_cons_succ]
    refine seqRead 2 (v := _) rfl (by kernel_rfl) (by kernel_rfl) (by kernel_rfl) (fun _ _ _ h => h) rfl (fun w hSw => by go_simp <;> with_reducible rfl) hS ?_
    try simp only [Act.put, List.setIfInBounds_toArray, List.set_cons_zero, List.set_cons_succ]
    refine seqRead 3 (v := _) rfl (by kernel_rfl) (by kernel_rfl) (by kernel_rfl) (fun _ _ _ h => h) rfl (fun w hSw => by have hc := hSw.1.cellsM.2.2.2.2.2.2.1; go_simp <;> with_reducible rfl) hS ?_
    try simp only [Act.put, List.setIfInBounds_toArray, List.set_cons_zero, List.set_cons_succ]
    refine seqRead 4 (v := _) rfl (by kernel_rfl) (by kernel_rfl) (by kernel_rfl) (fun _ _ _ h => h) rfl (fun w hSw => by go_simp <;> with_reducible rfl) hS ?_
    try simp only [Act.put, List.setIfInBounds_toArray, List.set_cons_zero, List.set_cons_succ]
    refine seqRead 5 (v := _) rfl (by kernel_rfl) (by kernel_rfl) (by kernel_rfl) (fun _ _ _ h => h) rfl (fun w hSw => by go_simp <;> with_reducible rfl) hS ?_
    try simp only [Act.put, List.setIfInBounds_toArray, List.set_cons_zero, List.set_cons_succ]
    refine seqSkip 6 rfl (by kernel_rfl) (by kernel_rfl) (by kernel_rfl) (fun _ _ _ h => h) rfl hS ?_
    try simp only [Act.put, List.setIfInBounds_toArray, List.set_cons_zero, List.set_cons_succ]
    refine seqSkip 7 rfl (by kernel_rfl) (by kernel_rfl) (by kernel_rfl) (fun _ _ _ h => h) rfl hS ?_
    try simp only [Act.put, List.setIfInBounds_toArray, List.set_cons_zero, List.set_cons_succ]
    refine seqSkip 8 rfl (by kernel_rfl) (by kernel_rfl) (by kernel_rfl) (fun _ _ _ h => h) rfl hS ?_
    try simp only [Act.put, List.setIfInBounds_toArray, List.set_cons_zero, List.set_cons_succ]
    refine seqSkip 9 rfl (by kernel_rfl) (by kernel_rfl) (by kernel_rfl) (fun _ _ _ h => h) rfl hS ?_
    try simp only [Act.put, List.setIfInBounds_toArray, List.set_cons_zero, List.set_cons_succ]
    refine seqRead 10 (v := _) rfl (by kernel_rfl) (by kernel_rfl) (by kernel_rfl) (fun _ _ _ h => h) rfl (fun w hSw => by go_simp <;> with_reducible rfl) hS ?_
    try simp only [Act.put, List.setIfInBounds_toArray, List.set_cons_zero, List.set_cons_succ]
    refine seqRead 11 (v := _) rfl (by kernel_rfl) (by kernel_rfl) (by kernel_rfl) (fun _ _ _ h => h) rfl (fun w hSw => by go_simp <;> with_reducible rfl) hS ?_
    try simp only [Act.put, List.setIfInBounds_toArray, List.set_cons_zero, List.set_cons_succ]
    refine seqDone (by kernel_rfl) ?_
    clear hS
    go_wp2_with fail
    go_ret
    exact ⟨rfl, HB1.out⟩
theorem tch3_any (r : Rm) (w : World) : Calls Tryd.prog 62 #[.agg (rca r)] w fun e w' => e = .returned (.bool false) ∧ Below w.heap.size w w' := by
  have HB := Lib.hid (below1 w (.cells (rca r) 44))
  go_enter Tryd.func62, Tryd.ntmps62
  go_wp2
  go_ret
  exact ⟨rfl, HB.out⟩
theorem en59 : ∀ args w, (callFunc 59 args).run Tryd.prog w = .ok (.enter 59 args) w := enters_of Tryd.func59 (by kernel_rfl) rfl
theorem en61 : ∀ args w, (callFunc 61 args).run Tryd.prog w = .ok (.enter 61 args) w := enters_of Tryd.func61 (by kernel_rfl) rfl
theorem en62 : ∀ args w, (callFunc 62 args).run Tryd.prog w = .ok (.enter 62 args) w := enters_of Tryd.func62 (by kernel_rfl) rfl
/-- what a change touches, if it is sound -/
def tcS (m : Mm) (r : Rm) : Bool := sndM m.u && tchB m.u r.u
/-- a function answers a condition on rules, wherever the change lies in its block -/
def PredA (g : Nat) (cb : Array Value) (q : Rm → Bool) (B : Nat) (m : Mm) : Prop :=
  ∀ W, Blk B (mca m) 30 W → Tab W → 0 < W.heap.size → ∀ c, wfr c → Calls Tryd.prog g (#[agR c] ++ cb) W fun e w' => e = .returned (.bool (q c)) ∧ Below W.heap.size W w'
section
variable {m : Mm} {B : Nat}
theorem PredA.pred {g : Nat} {cb : Array Value} {q : Rm → Bool} {w : World} (h : PredA g cb q B m) (hB : Blk B (mca m) 30 w) (ht : Tab w) (hz : 0 < w.heap.size) : KPred agR wfr g cb q w := fun W hb c hc =>
  h W (hB.below hb) ((Env.start ht hz).predK W hb).1 ((Env.start ht hz).predK W hb).2 c hc
theorem pred1 (hm : WfM m.u) (hs : sndM m.u = true) (hk : m.u.kind = 2 ∨ m.u.kind = 3) : PredA 59 #[.pointer (some ⟨B, 0, none⟩)] (tcS m) B m := fun W hB ht hz r hr => by
  have := tch1_any m B r hr hm W hB ht hz
  have e : tcS m r = ((r.u.owner == m.u.owner) && inB r.u.m m.u.m) := by unfold tcS tchB; rw [hs, if_pos hk, Bool.true_and]
  rw [e]
  exact this
theorem pred2 (hs : sndM m.u = true) (hk : m.u.kind = 4 ∨ m.u.kind = 5) : PredA 61 #[.pointer (some ⟨B, 0, none⟩)] (tcS m) B m := fun W hB _ _ r hr => by
  have := tch2_any m B r W hB
  have e : tcS m r = ((r.u.owner == m.u.owner) && keyB r.u (newU m.u)) := by
    unfold tcS tchB keyB newU
    rw [hs, if_neg (by omega), if_pos hk, Bool.true_and, Bool.and_comm (cEq r.u.m m.u.m)]
  rw [e]
  exact this
theorem pred3 (hn : ∀ r, tcS m r = false) : PredA 62 #[] (tcS m) B m := fun W _ _ _ r hr => by
  have := tch3_any r W
  rw [hn r]
  exact this
end
/-- what touchedBy gives: a function that says which rules the change touches -/
def TbyRet (m : Mm) (w : World) (e : Ending) (w' : World) : Prop := ∃ g cb, e = .returned (.func (.func g) #[] cb) ∧ (∀ args w, (callFunc g args).run Tryd.prog w = .ok (.enter g args) w) ∧ PredA g cb (tcS m) w.heap.size m ∧ Blk w.heap.size (mca m) 30 w' ∧ Below w.heap.size w w'
set_option maxHeartbeats 2000000 in
theorem tby_any (m : Mm) (hw : WfM m.u) (w : World) (ha : InM m w) (ht : Tab w) (hz : 0 < w.heap.size) : Calls Tryd.prog 31 #[.agg (mca m)] w (TbyRet m w) := by
  have R0 := Lib.hid (Blk.new w (mca m) 30)
  have HE := Lib.hid ((Env.start ht hz).alloc (.cells (mca m) 30))
  have HF := Lib.hid (msound_any m hw _ (ha.below (below1 w (.cells (mca m) 30))) HE.out.tab HE.out.lt)
  have HW := Lib.hid hw
  clear ht ha hw
  cases hs : sndM m.u
  · rw [hs] at HF
    have HN := Lib.hid (show ∀ r, tcS m r = false from fun r => by unfold tcS; rw [hs, Bool.false_and])
    clear hs
    go_enter Tryd.func31, Tryd.ntmps31
    go_wp2_with (first
      | (refine wpList_load_row rfl 30 _ rfl w.heap.size rfl 30 (mca m) (0, 0) _ R0.out Tryd.underlying30 rfl infoM ?_)
      | (go_at_call 16; refine HF.out.mono ?_; rintro e w1 ⟨rfl, hw1⟩))
    go_ret
    exact ⟨_, _, rfl, en62, pred3 HN.out, R0.out.below hw1, (HE.out.below hw1).kept⟩
  · rw [hs] at HF
    have HS := Lib.hid hs
    clear hs
    go_enter Tryd.func31, Tryd.ntmps31
    go_upto_region 2 with (first
      | (refine wpList_load_row rfl 30 _ rfl w.heap.size rfl 30 (mca m) (0, 0) _ R0.out Tryd.underlying30 rfl infoM ?_)
      | (go_at_call 16; refine HF.out.mono ?_; rintro e w1 ⟨rfl, hw1⟩))
    have R1 := Lib.hid (R0.out.below hw1)
    have HE1 := Lib.hid (HE.out.below hw1)
    clear hw1 R0 HE HF
    have k0 := R1.out.cellsM.1
    by_cases h2 : m.u.kind = 2
    · have h2d := eq_true0 h2
      go_wp2
      go_ret
      exact ⟨_, _, rfl, en59, pred1 HW.out HS.out (by omega), R1.out, HE1.out.kept⟩
    have h2d := eq_false0 h2
    by_cases h3 : m.u.kind = 3
    · have h3d := eq_true0 h3
      go_wp2
      go_ret
      exact ⟨_, _, rfl, en59, pred1 HW.out HS.out (by omega), R1.out, HE1.out.kept⟩
    have h3d := eq_false0 h3
    by_cases h4 : m.u.kind = 4
    · have h4d := eq_true0 h4
      go_wp2
      go_ret
      exact ⟨_, _, rfl, en61, pred2 HS.out (by omega), R1.out, HE1.out.kept⟩
    have h4d := eq_false0 h4
    by_cases h5 : m.u.kind = 5
    · have h5d := eq_true0 h5
      go_wp2
      go_ret
      exact ⟨_, _, rfl, en61, pred2 HS.out (by omega), R1.out, HE1.out.kept⟩
    have h5d := eq_false0 h5
    have HN := Lib.hid (show ∀ r, tcS m r = false from fun r => by unfold tcS tchB; rw [if_neg (by omega), if_neg (by omega), Bool.and_false, Bool.and_false])
    go_wp2
    go_ret
    exact ⟨_, _, rfl, en62, pred3 HN.out, R1.out, HE1.out.kept⟩
end Go.Proofs.YtghfohglnbenaaaDoor
