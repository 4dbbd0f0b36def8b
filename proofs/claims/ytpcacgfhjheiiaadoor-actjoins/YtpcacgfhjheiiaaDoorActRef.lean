/-
  The walk of the reference's Acts.
-/
import Derived.Test.YtpcacgfhjheiiaaDoorActRun
namespace Go.Proofs.YtpcacgfhjheiiaaDoor
open Go.RowKit

theorem sndAL_no {l : List Ac} {i : Nat} {c : Ac} (hi : l[i]? = some c) (h : sndA c = false) : sndAL l = false := by
  have : l.all sndA = false := by
    rw [List.all_eq_false]
    exact ⟨c, List.mem_of_getElem? hi, by simp [h]⟩
  simp [sndAL, this]
theorem sndAL_end {l : List Ac} (h : ∀ (j : Nat) b, l[j]? = some b → sndA b = true) : sndAL l = decide (l.length ≤ 8) := by
  have : l.all sndA = true := by
    rw [List.all_eq_true]
    intro x hx
    obtain ⟨j, hj, rfl⟩ := List.mem_iff_getElem.1 hx
    exact h j _ (List.getElem?_eq_getElem hj)
  simp [sndAL, this]
/-- an action lies in a block -/
def ActS (w : World) (B : Nat) (c : Ac) (W : World) : Prop := Blk B (aca c) 38 W ∧ Below w.heap.size w W
theorem ActS.below {w : World} {B : Nat} {c : Ac} {W W' : World} (hb : Below W.heap.size W W') (h : ActS w B c W) : ActS w B c W' := ⟨h.1.below hb, h.2.trans (hb.mono h.2.size)⟩
theorem a1_ok {p : Int} (g1 : 1 ≤ p) (g2 : p ≤ 16) : sndA ⟨1, p, 0, 0⟩ = true := by simp [sndA, g1, g2]
theorem a1_no {p f x : Int} (h : ¬ 1 ≤ p ∨ ¬ p ≤ 16 ∨ f ≠ 0 ∨ x ≠ 0) : sndA ⟨1, p, f, x⟩ = false := by
  rcases h with h | h | h | h <;> simp [sndA, h]
theorem a2_ok {n : Nat} {x : Int} (hn : n < 12) (hf : fitB n x = true) : sndA ⟨2, 0, n, x⟩ = true := by simp [sndA, setE_in n x hn hf]
theorem a2_p {p f x : Int} (h : p ≠ 0) : sndA ⟨2, p, f, x⟩ = false := by simp [sndA, h]
theorem a2_e {p f x : Int} (h : setE f x ≠ 0) : sndA ⟨2, p, f, x⟩ = false := by simp [sndA, h]
theorem setE_out {f x : Int} (h : ¬ 0 ≤ f ∨ ¬ f < 12) : setE f x ≠ 0 := fun e => by
  obtain ⟨m, rfl, e1, _⟩ := setE_zero e
  omega
theorem setE_big {n : Nat} {x : Int} (h : fitB n x = false) : setE (n : Int) x ≠ 0 := fun e => by
  obtain ⟨m, e1, _, e2⟩ := setE_zero e
  obtain rfl : n = m := by omega
  rw [e2] at h
  cases h
theorem a3_ok : sndA ⟨3, 0, 0, 0⟩ = true := by simp [sndA]
theorem a3_no {p f x : Int} (h : p ≠ 0 ∨ f ≠ 0 ∨ x ≠ 0) : sndA ⟨3, p, f, x⟩ = false := by
  rcases h with h | h | h <;> simp [sndA, h]
theorem a_no {k p f x : Int} (h1 : k ≠ 1) (h2 : k ≠ 2) (h3 : k ≠ 3) : sndA ⟨k, p, f, x⟩ = false := by simp [sndA, h1, h2, h3]
set_option maxRecDepth 100000 in
set_option maxHeartbeats 4000000 in
theorem racts_any (v : Value) (l : List Ac) (hlen : l.length ≤ 140737488355328) (hw : WfAL l) (w : World) (hl : KLies KA v l w) :
    Calls Tryd.prog 11 #[v] w fun e w' => e = .returned (.bool (sndAL l)) ∧ Below w.heap.size w w' := by
  have HL := Lib.hid hl
  have HW := Lib.hid hw
  obtain ⟨p0, cap, rfl⟩ := hl.form
  clear hl hw
  go_enter Tryd.func11, Tryd.ntmps11
  go_wp2
  go_loopg [3] l.length (fun kk i wr => ∃ r : Nat, r + kk = l.length ∧ i = .int .i64 r ∧ (∀ (j : Nat) b, j < r → l[j]? = some b → sndA b = true) ∧ Below w.heap.size w wr)
  case atStart => exact ⟨0, by omega, rfl, fun j _ h => absurd h (by omega), Below.refl _ _⟩
  case round =>
    obtain ⟨r, hr, rfl, hq, hb⟩ := hrel
    have HQ := Lib.hid hq
    have HB := Lib.hid hb
    clear hq hb
    by_cases hlt : r < l.length
    · have hltI : (r : Int) < (l.length : Int) := by omega
      obtain ⟨c, hc'⟩ := lt_some hlt
      obtain ⟨bb, o, rfl, hrg⟩ := (HL.out.below okA HB.out).at hc'
      have HR := Lib.hid hrg
      have HI := Lib.hid hc'
      have HWf := Lib.hid (HW.out.at hc')
      have R1 := Lib.hid (Blk.new wr (aca c) 38)
      have HB1 := Lib.hid (HB.out.trans ((below1 wr (.cells (aca c) 38)).mono HB.out.size))
      clear hrg hc'
      go_upto_region 6 with (first
        | (refine wpList_load_mid rfl 38 _ rfl bb (o + r * 4) rfl (acl c) _ HR.out Tryd.underlying38 rfl infoA ?_)
        | (refine wpList_store_row rfl 38 _ _ rfl wr.heap.size (aca c) rfl rfl 38 _ (heap_alloc_new _ _) (by kernel_rfl) rfl (aca_one _) ?_; rw [World.setRow_alloc_new]))
      clear HR HB
      generalize wr.heap.size = Bk at *
      generalize wr.alloc (.cells (aca c) 38) = W1 at *
      obtain ⟨k, p, f, x⟩ := c
      obtain ⟨k0, k1, k2, k3⟩ := cellA R1.out
      have c0 : W1.cell? ⟨Bk, 0, none⟩ = some (.int .i64 k) := k0
      have c1 : W1.cell? ⟨Bk, 1, none⟩ = some (.int .i64 p) := k1
      have c2 : W1.cell? ⟨Bk, 2, none⟩ = some (.int .i64 f) := k2
      have c3 : W1.cell? ⟨Bk, 3, none⟩ = some (.int .u64 x) := k3
      clear k0 k1 k2 k3
      by_cases h1 : k = 1
      · subst h1
        by_cases g1 : 1 ≤ p
        · by_cases g2 : p ≤ 16
          · by_cases g3 : f = 0
            · subst g3
              by_cases g4 : x = 0
              · subst g4
                have HN := Lib.hid (a1_ok g1 g2)
                go_wp2_with (fail)
                go_roundg (l.length - (r + 1))
                case measure => omega
                case rel =>
                  refine ⟨r + 1, by omega, by go_num, fun j b' hj hb' => ?_, HB1.out⟩
                  by_cases e : j = r
                  · subst e
                    rw [HI.out] at hb'
                    rw [← Option.some.inj hb']; exact HN.out
                  · exact HQ.out j b' (by omega) hb'
              · have g4' := beq_false g4
                have HN := Lib.hid (sndAL_no HI.out (a1_no (.inr (.inr (.inr g4)))))
                clear g4
                go_wp2_with (fail)
                go_ret
                exact ⟨ret_bool HN.out.symm, HB1.out⟩
            · have g3' := beq_false g3
              have HN := Lib.hid (sndAL_no HI.out (a1_no (.inr (.inr (.inl g3)))))
              clear g3
              go_wp2_with (fail)
              go_ret
              exact ⟨ret_bool HN.out.symm, HB1.out⟩
          · have hn := g2
            have HN := Lib.hid (sndAL_no HI.out (a1_no (.inr (.inl g2))))
            go_wp2_with (fail)
            go_ret
            exact ⟨ret_bool HN.out.symm, HB1.out⟩
        · have hn := g1
          have HN := Lib.hid (sndAL_no HI.out (a1_no (.inl g1)))
          go_wp2_with (fail)
          go_ret
          exact ⟨ret_bool HN.out.symm, HB1.out⟩
      · by_cases h2 : k = 2
        · subst h2
          by_cases g1 : p = 0
          · subst g1
            have hb0 : ((0 : Int) == 0) = true := rfl
            by_cases g2 : 0 ≤ f
            · have d2 : decide (0 ≤ f) = true := decide_eq_true g2
              by_cases g3 : f < 12
              · have d3 : decide (f < 12) = true := decide_eq_true g3
                obtain ⟨n, rfl⟩ : ∃ n : Nat, f = n := ⟨f.toNat, by omega⟩
                have hn : n < 12 := by omega
                have HS0 := Lib.hid (show ActS w Bk ⟨2, 0, n, x⟩ W1 from ⟨R1.out, HB1.out⟩)
                have HFt := Lib.hid (fun W => rfits_any n x W)
                have HSz := Lib.hid (fun W => rsize_in n W hn)
                cases hf : fitB n x
                · have hE := setE_big hf
                  have HN := Lib.hid (sndAL_no HI.out (a2_e hE))
                  clear hE
                  rw [hf] at HFt
                  clear hf g2 g3 d2 d3
                  have d2 : decide (0 ≤ (n : Int)) = true := decide_eq_true (by omega)
                  have d3 : decide ((n : Int) < 12) = true := decide_eq_true (by omega)
                  clear hltI
                  go_upto_region 10 with (fail)
                  refine wp_region_held_drew (S := ActS w Bk ⟨2, 0, n, x⟩) (by kernel_rfl) (ActS.below (Below.refl _ _).drew HS0.out) (fun hS => ?_)
                  clear c0 c1 c2 c3 HS0 R1 HB1
                  refine seqRead 0 (v := _) rfl (by kernel_rfl) (by kernel_rfl) (by kernel_rfl) (fun _ _ _ h => h) rfl (fun w hSw => by go_simp <;> with_reducible rfl) hS ?_
                  try simp only [Act.put, List.setIfInBounds_toArray, List.set_cons_zero, List.set_cons_succ]
                  refine seqRead 1 (v := _) rfl (by kernel_rfl) (by kernel_rfl) (by kernel_rfl) (fun _ _ _ h => h) rfl (fun w hSw => by have hq := (cellA hSw.1).2.1; go_simp <;> with_reducible rfl) hS ?_
                  try simp only [Act.put, List.setIfInBounds_toArray, List.set_cons_zero, List.set_cons_succ]
                  refine seqRead 2 (v := _) rfl (by kernel_rfl) (by kernel_rfl) (by kernel_rfl) (fun _ _ _ h => h) rfl (fun w hSw => by go_simp <;> with_reducible rfl) hS ?_
                  try simp only [Act.put, List.setIfInBounds_toArray, List.set_cons_zero, List.set_cons_succ]
                  refine seqRead 3 (v := _) rfl (by kernel_rfl) (by kernel_rfl) (by kernel_rfl) (fun _ _ _ h => h) rfl (fun w hSw => by go_simp <;> with_reducible rfl) hS ?_
                  try simp only [Act.put, List.setIfInBounds_toArray, List.set_cons_zero, List.set_cons_succ]
                  refine seqRead 4 (v := _) rfl (by kernel_rfl) (by kernel_rfl) (by kernel_rfl) (fun _ _ _ h => h) rfl (fun w hSw => by go_simp <;> with_reducible rfl) hS ?_
                  try simp only [Act.put, List.setIfInBounds_toArray, List.set_cons_zero, List.set_cons_succ]
                  refine seqRead 5 (v := _) rfl (by kernel_rfl) (by kernel_rfl) (by kernel_rfl) (fun _ _ _ h => h) rfl (fun w hSw => by have hq := (cellA hSw.1).2.2.1; go_simp <;> with_reducible rfl) hS ?_
                  try simp only [Act.put, List.setIfInBounds_toArray, List.set_cons_zero, List.set_cons_succ]
                  refine seqRead 6 (v := _) rfl (by kernel_rfl) (by kernel_rfl) (by kernel_rfl) (fun _ _ _ h => h) rfl (fun w hSw => by go_simp <;> with_reducible rfl) hS ?_
                  try simp only [Act.put, List.setIfInBounds_toArray, List.set_cons_zero, List.set_cons_succ]
                  refine seqRead 7 (v := _) rfl (by kernel_rfl) (by kernel_rfl) (by kernel_rfl) (fun _ _ _ h => h) rfl (fun w hSw => by go_simp <;> with_reducible rfl) hS ?_
                  try simp only [Act.put, List.setIfInBounds_toArray, List.set_cons_zero, List.set_cons_succ]
                  refine seqRead 8 (v := _) rfl (by kernel_rfl) (by kernel_rfl) (by kernel_rfl) (fun _ _ _ h => h) rfl (fun w hSw => by go_simp <;> with_reducible rfl) hS ?_
                  try simp only [Act.put, List.setIfInBounds_toArray, List.set_cons_zero, List.set_cons_succ]
                  refine seqRead 9 (v := _) rfl (by kernel_rfl) (by kernel_rfl) (by kernel_rfl) (fun _ _ _ h => h) rfl (fun w hSw => by go_simp <;> with_reducible rfl) hS ?_
                  try simp only [Act.put, List.setIfInBounds_toArray, List.set_cons_zero, List.set_cons_succ]
                  refine seqRead 10 (v := _) rfl (by kernel_rfl) (by kernel_rfl) (by kernel_rfl) (fun _ _ _ h => h) rfl (fun w hSw => by have hq := (cellA hSw.1).2.2.1; go_simp <;> with_reducible rfl) hS ?_
                  try simp only [Act.put, List.setIfInBounds_toArray, List.set_cons_zero, List.set_cons_succ]
                  refine seqRead 11 (v := _) rfl (by kernel_rfl) (by kernel_rfl) (by kernel_rfl) (fun _ _ _ h => h) rfl (fun w hSw => by go_simp <;> with_reducible rfl) hS ?_
                  try simp only [Act.put, List.setIfInBounds_toArray, List.set_cons_zero, List.set_cons_succ]
                  refine seqRead 12 (v := _) rfl (by kernel_rfl) (by kernel_rfl) (by kernel_rfl) (fun _ _ _ h => h) rfl (fun w hSw => by go_simp <;> with_reducible rfl) hS ?_
                  try simp only [Act.put, List.setIfInBounds_toArray, List.set_cons_zero, List.set_cons_succ]
                  refine seqRead 13 (v := _) rfl (by kernel_rfl) (by kernel_rfl) (by kernel_rfl) (fun _ _ _ h => h) rfl (fun w hSw => by go_simp <;> with_reducible rfl) hS ?_
                  try simp only [Act.put, List.setIfInBounds_toArray, List.set_cons_zero, List.set_cons_succ]
                  refine seqRead 14 (v := _) rfl (by kernel_rfl) (by kernel_rfl) (by kernel_rfl) (fun _ _ _ h => h) rfl (fun w hSw => by go_simp <;> with_reducible rfl) hS ?_
                  try simp only [Act.put, List.setIfInBounds_toArray, List.set_cons_zero, List.set_cons_succ]
                  refine seqRead 15 (v := _) rfl (by kernel_rfl) (by kernel_rfl) (by kernel_rfl) (fun _ _ _ h => h) rfl (fun w hSw => by have hq := (cellA hSw.1).2.2.2; go_simp <;> with_reducible rfl) hS ?_
                  try simp only [Act.put, List.setIfInBounds_toArray, List.set_cons_zero, List.set_cons_succ]
                  refine seqRead 16 (v := _) rfl (by kernel_rfl) (by kernel_rfl) (by kernel_rfl) (fun _ _ _ h => h) rfl (fun w hSw => by go_simp <;> with_reducible rfl) hS ?_
                  try simp only [Act.put, List.setIfInBounds_toArray, List.set_cons_zero, List.set_cons_succ]
                  refine seqRead 17 (v := _) rfl (by kernel_rfl) (by kernel_rfl) (by kernel_rfl) (fun _ _ _ h => h) rfl (fun w hSw => by have hq := (cellA hSw.1).2.2.1; go_simp <;> with_reducible rfl) hS ?_
                  try simp only [Act.put, List.setIfInBounds_toArray, List.set_cons_zero, List.set_cons_succ]
                  refine seqCall 18 rfl (by kernel_rfl) rfl (fun K hK => ?_)
                  go_simp
                  refine (HSz.out _).mono ?_
                  rintro e w5 ⟨rfl, hw5⟩
                  refine hK.out _ _ (ActS.below hw5 hS) (fun hS => ?_)
                  clear hK K hw5
                  try simp only [Act.put, List.setIfInBounds_toArray, List.set_cons_zero, List.set_cons_succ]
                  refine seqCall 19 rfl (by kernel_rfl) rfl (fun K hK => ?_)
                  go_simp
                  refine (HFt.out _).mono ?_
                  rintro e w6 ⟨rfl, rfl⟩
                  refine hK.out _ _ hS (fun hS => ?_)
                  clear hK K
                  try simp only [Act.put, List.setIfInBounds_toArray, List.set_cons_zero, List.set_cons_succ]
                  refine seqRead 20 (v := _) rfl (by kernel_rfl) (by kernel_rfl) (by kernel_rfl) (fun _ _ _ h => h) rfl (fun w hSw => by go_simp <;> with_reducible rfl) hS ?_
                  try simp only [Act.put, List.setIfInBounds_toArray, List.set_cons_zero, List.set_cons_succ]
                  refine seqRead 21 (v := _) rfl (by kernel_rfl) (by kernel_rfl) (by kernel_rfl) (fun _ _ _ h => h) rfl (fun w hSw => by go_simp <;> with_reducible rfl) hS ?_
                  try simp only [Act.put, List.setIfInBounds_toArray, List.set_cons_zero, List.set_cons_succ]
                  refine seqDone (by kernel_rfl) ?_
                  go_wp2_with (fail)
                  go_ret
                  exact ⟨ret_bool HN.out.symm, hS.2⟩
                · have hE := setE_in n x hn hf
                  have HN := Lib.hid (a2_ok hn hf)
                  clear hE
                  rw [hf] at HFt
                  clear hf g2 g3 d2 d3
                  have d2 : decide (0 ≤ (n : Int)) = true := decide_eq_true (by omega)
                  have d3 : decide ((n : Int) < 12) = true := decide_eq_true (by omega)
                  clear hltI
                  go_upto_region 10 with (fail)
                  refine wp_region_held_drew (S := ActS w Bk ⟨2, 0, n, x⟩) (by kernel_rfl) (ActS.below (Below.refl _ _).drew HS0.out) (fun hS => ?_)
                  clear c0 c1 c2 c3 HS0 R1 HB1
                  refine seqRead 0 (v := _) rfl (by kernel_rfl) (by kernel_rfl) (by kernel_rfl) (fun _ _ _ h => h) rfl (fun w hSw => by go_simp <;> with_reducible rfl) hS ?_
                  try simp only [Act.put, List.setIfInBounds_toArray, List.set_cons_zero, List.set_cons_succ]
                  refine seqRead 1 (v := _) rfl (by kernel_rfl) (by kernel_rfl) (by kernel_rfl) (fun _ _ _ h => h) rfl (fun w hSw => by have hq := (cellA hSw.1).2.1; go_simp <;> with_reducible rfl) hS ?_
                  try simp only [Act.put, List.setIfInBounds_toArray, List.set_cons_zero, List.set_cons_succ]
                  refine seqRead 2 (v := _) rfl (by kernel_rfl) (by kernel_rfl) (by kernel_rfl) (fun _ _ _ h => h) rfl (fun w hSw => by go_simp <;> with_reducible rfl) hS ?_
                  try simp only [Act.put, List.setIfInBounds_toArray, List.set_cons_zero, List.set_cons_succ]
                  refine seqRead 3 (v := _) rfl (by kernel_rfl) (by kernel_rfl) (by kernel_rfl) (fun _ _ _ h => h) rfl (fun w hSw => by go_simp <;> with_reducible rfl) hS ?_
                  try simp only [Act.put, List.setIfInBounds_toArray, List.set_cons_zero, List.set_cons_succ]
                  refine seqRead 4 (v := _) rfl (by kernel_rfl) (by kernel_rfl) (by kernel_rfl) (fun _ _ _ h => h) rfl (fun w hSw => by go_simp <;> with_reducible rfl) hS ?_
                  try simp only [Act.put, List.setIfInBounds_toArray, List.set_cons_zero, List.set_cons_succ]
                  refine seqRead 5 (v := _) rfl (by kernel_rfl) (by kernel_rfl) (by kernel_rfl) (fun _ _ _ h => h) rfl (fun w hSw => by have hq := (cellA hSw.1).2.2.1; go_simp <;> with_reducible rfl) hS ?_
                  try simp only [Act.put, List.setIfInBounds_toArray, List.set_cons_zero, List.set_cons_succ]
                  refine seqRead 6 (v := _) rfl (by kernel_rfl) (by kernel_rfl) (by kernel_rfl) (fun _ _ _ h => h) rfl (fun w hSw => by go_simp <;> with_reducible rfl) hS ?_
                  try simp only [Act.put, List.setIfInBounds_toArray, List.set_cons_zero, List.set_cons_succ]
                  refine seqRead 7 (v := _) rfl (by kernel_rfl) (by kernel_rfl) (by kernel_rfl) (fun _ _ _ h => h) rfl (fun w hSw => by go_simp <;> with_reducible rfl) hS ?_
                  try simp only [Act.put, List.setIfInBounds_toArray, List.set_cons_zero, List.set_cons_succ]
                  refine seqRead 8 (v := _) rfl (by kernel_rfl) (by kernel_rfl) (by kernel_rfl) (fun _ _ _ h => h) rfl (fun w hSw => by go_simp <;> with_reducible rfl) hS ?_
                  try simp only [Act.put, List.setIfInBounds_toArray, List.set_cons_zero, List.set_cons_succ]
                  refine seqRead 9 (v := _) rfl (by kernel_rfl) (by kernel_rfl) (by kernel_rfl) (fun _ _ _ h => h) rfl (fun w hSw => by go_simp <;> with_reducible rfl) hS ?_
                  try simp only [Act.put, List.setIfInBounds_toArray, List.set_cons_zero, List.set_cons_succ]
                  refine seqRead 10 (v := _) rfl (by kernel_rfl) (by kernel_rfl) (by kernel_rfl) (fun _ _ _ h => h) rfl (fun w hSw => by have hq := (cellA hSw.1).2.2.1; go_simp <;> with_reducible rfl) hS ?_
                  try simp only [Act.put, List.setIfInBounds_toArray, List.set_cons_zero, List.set_cons_succ]
                  refine seqRead 11 (v := _) rfl (by kernel_rfl) (by kernel_rfl) (by kernel_rfl) (fun _ _ _ h => h) rfl (fun w hSw => by go_simp <;> with_reducible rfl) hS ?_
                  try simp only [Act.put, List.setIfInBounds_toArray, List.set_cons_zero, List.set_cons_succ]
                  refine seqRead 12 (v := _) rfl (by kernel_rfl) (by kernel_rfl) (by kernel_rfl) (fun _ _ _ h => h) rfl (fun w hSw => by go_simp <;> with_reducible rfl) hS ?_
                  try simp only [Act.put, List.setIfInBounds_toArray, List.set_cons_zero, List.set_cons_succ]
                  refine seqRead 13 (v := _) rfl (by kernel_rfl) (by kernel_rfl) (by kernel_rfl) (fun _ _ _ h => h) rfl (fun w hSw => by go_simp <;> with_reducible rfl) hS ?_
                  try simp only [Act.put, List.setIfInBounds_toArray, List.set_cons_zero, List.set_cons_succ]
                  refine seqRead 14 (v := _) rfl (by kernel_rfl) (by kernel_rfl) (by kernel_rfl) (fun _ _ _ h => h) rfl (fun w hSw => by go_simp <;> with_reducible rfl) hS ?_
                  try simp only [Act.put, List.setIfInBounds_toArray, List.set_cons_zero, List.set_cons_succ]
                  refine seqRead 15 (v := _) rfl (by kernel_rfl) (by kernel_rfl) (by kernel_rfl) (fun _ _ _ h => h) rfl (fun w hSw => by have hq := (cellA hSw.1).2.2.2; go_simp <;> with_reducible rfl) hS ?_
                  try simp only [Act.put, List.setIfInBounds_toArray, List.set_cons_zero, List.set_cons_succ]
                  refine seqRead 16 (v := _) rfl (by kernel_rfl) (by kernel_rfl) (by kernel_rfl) (fun _ _ _ h => h) rfl (fun w hSw => by go_simp <;> with_reducible rfl) hS ?_
                  try simp only [Act.put, List.setIfInBounds_toArray, List.set_cons_zero, List.set_cons_succ]
                  refine seqRead 17 (v := _) rfl (by kernel_rfl) (by kernel_rfl) (by kernel_rfl) (fun _ _ _ h => h) rfl (fun w hSw => by have hq := (cellA hSw.1).2.2.1; go_simp <;> with_reducible rfl) hS ?_
                  try simp only [Act.put, List.setIfInBounds_toArray, List.set_cons_zero, List.set_cons_succ]
                  refine seqCall 18 rfl (by kernel_rfl) rfl (fun K hK => ?_)
                  go_simp
                  refine (HSz.out _).mono ?_
                  rintro e w5 ⟨rfl, hw5⟩
                  refine hK.out _ _ (ActS.below hw5 hS) (fun hS => ?_)
                  clear hK K hw5
                  try simp only [Act.put, List.setIfInBounds_toArray, List.set_cons_zero, List.set_cons_succ]
                  refine seqCall 19 rfl (by kernel_rfl) rfl (fun K hK => ?_)
                  go_simp
                  refine (HFt.out _).mono ?_
                  rintro e w6 ⟨rfl, rfl⟩
                  refine hK.out _ _ hS (fun hS => ?_)
                  clear hK K
                  try simp only [Act.put, List.setIfInBounds_toArray, List.set_cons_zero, List.set_cons_succ]
                  refine seqRead 20 (v := _) rfl (by kernel_rfl) (by kernel_rfl) (by kernel_rfl) (fun _ _ _ h => h) rfl (fun w hSw => by go_simp <;> with_reducible rfl) hS ?_
                  try simp only [Act.put, List.setIfInBounds_toArray, List.set_cons_zero, List.set_cons_succ]
                  refine seqRead 21 (v := _) rfl (by kernel_rfl) (by kernel_rfl) (by kernel_rfl) (fun _ _ _ h => h) rfl (fun w hSw => by go_simp <;> with_reducible rfl) hS ?_
                  try simp only [Act.put, List.setIfInBounds_toArray, List.set_cons_zero, List.set_cons_succ]
                  refine seqDone (by kernel_rfl) ?_
                  go_wp2_with (fail)
                  go_roundg (l.length - (r + 1))
                  case measure => omega
                  case rel =>
                    refine ⟨r + 1, by omega, by go_num, fun j b' hj hb' => ?_, hS.2⟩
                    by_cases e : j = r
                    · subst e
                      rw [HI.out] at hb'
                      rw [← Option.some.inj hb']; exact HN.out
                    · exact HQ.out j b' (by omega) hb'
              · have d3 : decide (f < 12) = false := decide_eq_false g3
                have hE : setE f x ≠ 0 := setE_out (.inr g3)
                have HN := Lib.hid (sndAL_no HI.out (a2_e hE))
                clear hE g2 g3
                go_upto_region 10 with (fail)
                go_quiet (fail)
                have HB2 := Lib.hid (HB1.out.trans ((belowDrewN W1 nq).mono HB1.out.size))
                generalize W1.drewN nq = W2 at *
                go_wp2_with (fail)
                go_ret
                exact ⟨ret_bool HN.out.symm, HB2.out⟩
            · have d2 : decide (0 ≤ f) = false := decide_eq_false g2
              have hE : setE f x ≠ 0 := setE_out (.inl g2)
              have HN := Lib.hid (sndAL_no HI.out (a2_e hE))
              clear hE g2
              go_upto_region 10 with (fail)
              go_quiet (fail)
              have HB2 := Lib.hid (HB1.out.trans ((belowDrewN W1 nq).mono HB1.out.size))
              generalize W1.drewN nq = W2 at *
              go_wp2_with (fail)
              go_ret
              exact ⟨ret_bool HN.out.symm, HB2.out⟩
          · have g1' := beq_false g1
            have HN := Lib.hid (sndAL_no HI.out (a2_p g1))
            clear g1
            go_upto_region 10 with (fail)
            go_quiet (fail)
            have HB2 := Lib.hid (HB1.out.trans ((belowDrewN W1 nq).mono HB1.out.size))
            generalize W1.drewN nq = W2 at *
            go_wp2_with (fail)
            go_ret
            exact ⟨ret_bool HN.out.symm, HB2.out⟩
        · by_cases h3 : k = 3
          · subst h3
            by_cases g1 : p = 0
            · subst g1
              by_cases g2 : f = 0
              · subst g2
                by_cases g3 : x = 0
                · subst g3
                  have HN := Lib.hid (a3_ok)
                  go_wp2_with (fail)
                  go_roundg (l.length - (r + 1))
                  case measure => omega
                  case rel =>
                    refine ⟨r + 1, by omega, by go_num, fun j b' hj hb' => ?_, HB1.out⟩
                    by_cases e : j = r
                    · subst e
                      rw [HI.out] at hb'
                      rw [← Option.some.inj hb']; exact HN.out
                    · exact HQ.out j b' (by omega) hb'
                · have g3' := beq_false g3
                  have HN := Lib.hid (sndAL_no HI.out (a3_no (.inr (.inr g3))))
                  clear g3
                  go_wp2_with (fail)
                  go_ret
                  exact ⟨ret_bool HN.out.symm, HB1.out⟩
              · have g2' := beq_false g2
                have HN := Lib.hid (sndAL_no HI.out (a3_no (.inr (.inl g2))))
                clear g2
                go_wp2_with (fail)
                go_ret
                exact ⟨ret_bool HN.out.symm, HB1.out⟩
            · have g1' := beq_false g1
              have HN := Lib.hid (sndAL_no HI.out (a3_no (.inl g1)))
              clear g1
              go_wp2_with (fail)
              go_ret
              exact ⟨ret_bool HN.out.symm, HB1.out⟩
          · have e1 := beq_false h1
            have e2 := beq_false h2
            have e3 := beq_false h3
            have HN := Lib.hid (sndAL_no HI.out (a_no h1 h2 h3))
            clear h1 h2 h3
            go_wp2_with (fail)
            go_ret
            exact ⟨ret_bool HN.out.symm, HB1.out⟩
    · have hltI : ¬ (r : Int) < (l.length : Int) := by omega
      have HN := Lib.hid (sndAL_end fun j b hj => HQ.out j b (by have := (List.getElem?_eq_some_iff.1 hj).1; omega) hj)
      go_wp2
      go_ret
      exact ⟨ret_bool (by rw [HN.out]; apply decide_eq_decide.2; omega), HB.out⟩
end Go.Proofs.YtpcacgfhjheiiaaDoor
