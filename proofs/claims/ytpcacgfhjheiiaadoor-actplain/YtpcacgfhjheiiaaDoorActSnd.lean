/-
  The walks of the program's unsound and Sound of package act.
-/
import Derived.Test.YtpcacgfhjheiiaaDoorActVal
import Derived.Deep.DeepCutAuto
namespace Go.Proofs.YtpcacgfhjheiiaaDoor
open Go.RowKit

theorem cellA {W : World} {b : Nat} {a : Ac} {t : TypeId} (h : Blk b (aca a) t W) : W.cell? ⟨b, 0, none⟩ = some (.int .i64 a.k) ∧ W.cell? ⟨b, 1, none⟩ = some (.int .i64 a.p) ∧ W.cell? ⟨b, 2, none⟩ = some (.int .i64 a.f) ∧ W.cell? ⟨b, 3, none⟩ = some (.int .u64 a.v) :=
  ⟨(cell_of_row W b 0 _ _ _ h).trans rfl, (cell_of_row W b 1 _ _ _ h).trans rfl, (cell_of_row W b 2 _ _ _ h).trans rfl, (cell_of_row W b 3 _ _ _ h).trans rfl⟩
theorem ne_true {a b : Int} (h : a ≠ b) : (a != b) = true := by simpa using h
theorem beq_false {a b : Int} (h : a ≠ b) : (a == b) = false := by simpa using h
set_option maxHeartbeats 400000 in
theorem unsound_one (p f v : Int) (w : World) :
    Calls Tryd.prog 17 #[.agg (aca ⟨1, p, f, v⟩)] w fun e w' => e = .returned (.bool (!sndA ⟨1, p, f, v⟩)) ∧ Below w.heap.size w w' := by
  obtain ⟨k0, k1, k2, k3⟩ := cellA (Blk.new w (aca ⟨1, p, f, v⟩) 38)
  have HB := Lib.hid (below1 w (.cells (aca ⟨1, p, f, v⟩) 38))
  by_cases h1 : p < 1
  · have hs : (!sndA ⟨1, p, f, v⟩) = true := by simp [sndA]; omega
    rw [hs]
    clear hs
    go_enter Tryd.func17, Tryd.ntmps17
    go_wp2
    go_ret
    exact ⟨rfl, HB.out⟩
  · by_cases h2 : 16 < p
    · have hs : (!sndA ⟨1, p, f, v⟩) = true := by simp [sndA]; omega
      rw [hs]
      clear hs
      go_enter Tryd.func17, Tryd.ntmps17
      go_wp2
      go_ret
      exact ⟨rfl, HB.out⟩
    · by_cases h3 : f = 0
      · subst h3
        have hs : (!sndA ⟨1, p, 0, v⟩) = (v != 0) := by simp [sndA, show 1 ≤ p by omega, show p ≤ 16 by omega, bne]
        rw [hs]
        clear hs
        go_enter Tryd.func17, Tryd.ntmps17
        go_wp2
        go_ret
        exact ⟨rfl, HB.out⟩
      · have hs : (!sndA ⟨1, p, f, v⟩) = true := by simp [sndA, h3]
        rw [hs]
        have h3' := ne_true h3
        clear hs h3
        go_enter Tryd.func17, Tryd.ntmps17
        go_wp2
        go_ret
        exact ⟨rfl, HB.out⟩
set_option maxHeartbeats 400000 in
theorem unsound_two (p f v : Int) (v0 : 0 ≤ v) (w : World) (ht : Tab w) (hz : 0 < w.heap.size) :
    Calls Tryd.prog 17 #[.agg (aca ⟨2, p, f, v⟩)] w fun e w' => e = .returned (.bool (!sndA ⟨2, p, f, v⟩)) ∧ Below w.heap.size w w' := by
  have R0 := Lib.hid (Blk.new w (aca ⟨2, p, f, v⟩) 38)
  have HE := Lib.hid ((Env.start ht hz).alloc (.cells (aca ⟨2, p, f, v⟩) 38))
  obtain ⟨k0, k1, k2, k3⟩ := cellA R0.out
  have HS := Lib.hid (set_any zh f v _ v0 HE.out.tab HE.out.lt)
  have hs : (!sndA ⟨2, p, f, v⟩) = ((setE f v != 0) || (p != 0)) := by simp only [sndA]; cases h : setE f v == 0 <;> cases h' : p == 0 <;> simp [bne, h, h']
  rw [hs]
  clear hs ht v0
  generalize setV zh f v = g at *
  generalize setE f v = e0 at *
  by_cases h1 : e0 = 0
  · subst h1
    go_enter Tryd.func17, Tryd.ntmps17
    go_upto_region 6 with (first
      | (go_at_call 15; refine HS.out.mono ?_; rintro e w1 ⟨rfl, hw1⟩)
      | (refine wpList_store_row rfl 25 _ _ rfl w1.heap.size (hc g) rfl rfl 25 _ (heap_alloc_new _ _) (by kernel_rfl) rfl (hc_one _) ?_; rw [World.setRow_alloc_new]))
    have R1 := Lib.hid ((R0.out.below hw1).old (.cells (hc g) 25))
    have HB := Lib.hid ((HE.out.below hw1).alloc (.cells (hc g) 25)).kept
    clear hw1 k0 k1 k2 k3 HS HE
    obtain ⟨k0, k1, k2, k3⟩ := cellA R1.out
    go_wp2
    go_ret
    exact ⟨rfl, HB.out⟩
  · have h1' := ne_true h1
    clear h1
    go_enter Tryd.func17, Tryd.ntmps17
    go_upto_region 6 with (first
      | (go_at_call 15; refine HS.out.mono ?_; rintro e w1 ⟨rfl, hw1⟩)
      | (refine wpList_store_row rfl 25 _ _ rfl w1.heap.size (hc g) rfl rfl 25 _ (heap_alloc_new _ _) (by kernel_rfl) rfl (hc_one _) ?_; rw [World.setRow_alloc_new]))
    have HB := Lib.hid ((HE.out.below hw1).alloc (.cells (hc g) 25)).kept
    clear hw1 k0 k1 k2 k3 HS HE
    go_wp2
    go_ret
    exact ⟨ret_bool (by rw [h1']; rfl), HB.out⟩
set_option maxHeartbeats 400000 in
theorem unsound_three (p f v : Int) (w : World) :
    Calls Tryd.prog 17 #[.agg (aca ⟨3, p, f, v⟩)] w fun e w' => e = .returned (.bool (!sndA ⟨3, p, f, v⟩)) ∧ Below w.heap.size w w' := by
  have R0 := Lib.hid (Blk.new w (aca ⟨3, p, f, v⟩) 38)
  obtain ⟨k0, _, _, _⟩ := cellA R0.out
  have HB := Lib.hid (below1 w (.cells (aca ⟨3, p, f, v⟩) 38))
  have hs : (!sndA ⟨3, p, f, v⟩) = !aEq ⟨3, p, f, v⟩ ⟨3, 0, 0, 0⟩ := by simp [sndA, aEq]
  rw [hs]
  clear hs
  have heq : ∀ w, (Op.equalIn 10000 38 (.agg (aca ⟨3, p, f, v⟩)) (.agg #[.int .i64 3, .int .i64 0, .int .i64 0, .int .u64 0])).run Tryd.prog w = .ok (aEq ⟨3, p, f, v⟩ ⟨3, 0, 0, 0⟩) w := fun w => eql_act ⟨3, p, f, v⟩ ⟨3, 0, 0, 0⟩ w
  have hgd := guardAct
  generalize aEq ⟨3, p, f, v⟩ ⟨3, 0, 0, 0⟩ = y at *
  go_enter Tryd.func17, Tryd.ntmps17
  go_wp2_with (refine wpList_load_row rfl 38 _ rfl w.heap.size rfl 38 (aca ⟨3, p, f, v⟩) (0, 0) _ R0.out Tryd.underlying38 rfl (by kernel_rfl) ?_)
  go_ret
  exact ⟨rfl, HB.out⟩
set_option maxHeartbeats 400000 in
theorem unsound_no (k p f v : Int) (h1 : k ≠ 1) (h2 : k ≠ 2) (h3 : k ≠ 3) (w : World) :
    Calls Tryd.prog 17 #[.agg (aca ⟨k, p, f, v⟩)] w fun e w' => e = .returned (.bool (!sndA ⟨k, p, f, v⟩)) ∧ Below w.heap.size w w' := by
  have R0 := Lib.hid (Blk.new w (aca ⟨k, p, f, v⟩) 38)
  obtain ⟨k0, _, _, _⟩ := cellA R0.out
  have HB := Lib.hid (below1 w (.cells (aca ⟨k, p, f, v⟩) 38))
  have hs : (!sndA ⟨k, p, f, v⟩) = true := by simp [sndA, h1, h2, h3]
  rw [hs]
  clear hs
  have e1 := beq_false h1
  have e2 := beq_false h2
  have e3 := beq_false h3
  clear h1 h2 h3
  go_enter Tryd.func17, Tryd.ntmps17
  go_wp2
  go_ret
  exact ⟨rfl, HB.out⟩
theorem aunsound_any (a : Ac) (ha : WfA a) (w : World) (ht : Tab w) (hz : 0 < w.heap.size) :
    Calls Tryd.prog 17 #[.agg (aca a)] w fun e w' => e = .returned (.bool (!sndA a)) ∧ Below w.heap.size w w' := by
  obtain ⟨k, p, f, v⟩ := a
  by_cases h1 : k = 1
  · subst h1; exact unsound_one p f v w
  · by_cases h2 : k = 2
    · subst h2; exact unsound_two p f v ha.1 w ht hz
    · by_cases h3 : k = 3
      · subst h3; exact unsound_three p f v w
      · exact unsound_no k p f v h1 h2 h3 w
theorem enAUnsound : Enters Tryd.prog 17 := enters_of Tryd.func17 (by kernel_rfl) rfl
theorem pred_aunsound {w : World} (ht : Tab w) (hz : 0 < w.heap.size) : KPred (fun a => .agg (aca a)) WfA 17 #[] (fun a => !sndA a) w := fun W hb c hc => by
  obtain ⟨h1, h2⟩ := (Env.start ht hz).predK W hb
  exact aunsound_any c hc W h1 h2
end Go.Proofs.YtpcacgfhjheiiaaDoor
