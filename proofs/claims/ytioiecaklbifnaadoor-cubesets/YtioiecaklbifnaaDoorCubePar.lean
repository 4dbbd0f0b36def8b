/-
  The walk of the law CubeParts.
-/
import Derived.Test.YtioiecaklbifnaaDoorCubeLes
import Derived.Test.YtioiecaklbifnaaDoorCubeParM
import Derived.Test.YtioiecaklbifnaaDoorCubeOrd
import Derived.Deep.DeepCutAuto
namespace Go.Proofs.YtioiecaklbifnaaDoor
open Go.RowKit

/-- a list's element, a cube -/
def nth (l : List (Nat → Int)) (i : Nat) : Nat → Int := l.getD i zh
theorem nth_mem {l : List (Nat → Int)} {i : Nat} (h : i < l.length) : nth l i ∈ l := by
  unfold nth
  rw [List.getD_eq_getElem?_getD, List.getElem?_eq_getElem h]
  exact List.getElem_mem h
theorem flat_at : ∀ (l : List (Nat → Int)) (i : Nat), i < l.length → ∀ j v, (cl (nth l i))[j]? = some v → (flat l)[i * 24 + j]? = some v
  | [], i, h => absurd h (by simp)
  | a :: l, 0, _ => fun j v hv => by
    have hj : j < (cl a).length := (List.getElem?_eq_some_iff.1 hv).1
    show (cl a ++ flat l)[0 * 24 + j]? = some v
    rw [Nat.zero_mul, Nat.zero_add, List.getElem?_append_left hj]
    exact hv
  | a :: l, i + 1, h => fun j v hv => by
    have ih := flat_at l i (by simpa using h) j v hv
    show (cl a ++ flat l)[(i + 1) * 24 + j]? = some v
    rw [List.getElem?_append_right (by rw [cl_len]; omega), cl_len, show (i + 1) * 24 + j - 24 = i * 24 + j by omega]
    exact ih
theorem Owns.range {base g n cap : Nat} {l : List (Nat → Int)} {W : World} (h : Owns base (.slice (some ⟨g, 0, none⟩) n cap) l W) (i : Nat) (hi : i < l.length) : W.rangeAt g (i * 24) (cl (nth l i)) := fun j v hv => by
  rcases h with ⟨_, ⟨e, _⟩ | ⟨g', cap', cur, e1, _, e3, _, _, _, e7⟩⟩
  · cases e
  · injection e1 with e1 _ _
    injection e1 with e1
    injection e1 with e1
    subst e1
    have hj : j < 24 := by have := (List.getElem?_eq_some_iff.1 hv).1; rw [cl_len] at this; exact this
    have q := flat_at l i hi j v hv
    rw [← e7, List.getElem?_take_of_lt (by have := Nat.mul_le_mul_right 24 (show i + 1 ≤ l.length by omega); omega)] at q
    rw [cell_of_row W g _ cur _ _ e3, ← Array.getElem?_toList]
    exact q
/-- the two cubes and the pieces lie in memory -/
def PartS (w : World) (a b : Nat → Int) (g : Nat) (l : List (Nat → Int)) (W : World) : Prop :=
  Blk w.heap.size (cc a) 26 W ∧ Blk (w.heap.size + 1) (cc b) 26 W ∧ (∀ i, i < l.length → W.rangeAt g (i * 24) (cl (nth l i))) ∧ g < W.heap.size ∧ Env w W ∧ 0 < w.heap.size
section
variable {w : World} {a b : Nat → Int} {g : Nat} {l : List (Nat → Int)} {W : World}
theorem PartS.below {W' : World} (hb : Below W.heap.size W W') (h : PartS w a b g l W) : PartS w a b g l W' :=
  ⟨h.1.below hb, h.2.1.below hb, fun i hi j v hv => (hb.cell (p := ⟨g, i * 24 + j, none⟩) h.2.2.2.1).trans (h.2.2.1 i hi j v hv), Nat.lt_of_lt_of_le h.2.2.2.1 hb.size, h.2.2.2.2.1.below hb, h.2.2.2.2.2⟩
theorem PartS.at (h : PartS w a b g l W) {i : Nat} (hi : i < l.length) : W.rangeAt g (i * 24) (cl (nth l i)) := h.2.2.1 i hi
theorem PartS.env (h : PartS w a b g l W) : Env w W := h.2.2.2.2.1
theorem PartS.ge (h : PartS w a b g l W) : w.heap.size + 1 < W.heap.size ∧ g < W.heap.size := ⟨h.2.1.lt, h.2.2.2.1⟩
theorem PartS.setRow {k : Nat} {cs : Array Value} (hk : w.heap.size + 1 < k ∧ g < k) (h : PartS w a b g l W) : PartS w a b g l (W.setRow k cs) :=
  ⟨h.1.rother (by omega) _, h.2.1.rother (by omega) _, fun i hi j v hv => (cell_setRow_other W k cs _ (by show g ≠ k; omega)).trans (h.2.2.1 i hi j v hv), by rw [setRow_size]; exact h.2.2.2.1, h.2.2.2.2.1.setRow h.2.2.2.2.2 (by omega) _, h.2.2.2.2.2⟩
end
theorem cl_head (a : Nat → Int) : (cl a)[0]? = some (.int .u64 (a 0)) := by simp [cl]
theorem PartS.start {w W w1 : World} {a b : Nat → Int} {g cap base n : Nat} {l : List (Nat → Int)} (s : Pair w a b W) (hz : 0 < w.heap.size) (ho : Owns base (.slice (some ⟨g, 0, none⟩) n cap) l w1) (hn : 0 < l.length) (hb : Below W.heap.size W w1) : PartS w a b g l w1 :=
  ⟨s.1.below hb, s.2.1.below hb, fun i hi => ho.range i hi, World.block_lt_of_cell? _ _ (ho.range 0 hn 0 _ (cl_head _)), s.2.2.below hb, hz⟩
set_option maxHeartbeats 4000000 in
theorem parts_some (a b : Nat → Int) (l : List (Nat → Int)) (ha : Wf a) (hb : Wf b) (hl : ∀ x ∈ l, Wf x) (h1 : ∀ x ∈ l, csnd x = true ∧ inB x a = true ∧ metB x b = false) (h2 : ∀ i j, i < j → j < l.length → metB (nth l j) (nth l i) = false)
    (hn : 0 < l.length) (hmax : l.length ≤ 248) (hin : inB a b = false)
    (w : World) (ht : Tab w) (hz : 0 < w.heap.size)
    (hless : ∀ W, Tab W → 0 < W.heap.size → Calls Tryd.prog 23 #[.agg (cc a), .agg (cc b)] W (LessRet W l)) :
    Calls Tryd.prog 5 #[.agg (cc a), .agg (cc b)] w fun e w' => e = .returned (.bool true) ∧ Below w.heap.size w w' := by
  have S0 := Lib.hid (Pair.start ht hz a b)
  have A0 := Lib.hid ha
  have B0 := Lib.hid hb
  have L0 := Lib.hid hl
  have H1 := Lib.hid h1
  have H2 := Lib.hid h2
  have HL := Lib.hid hless
  clear ht ha hb hl h1 h2 hless
  go_enter Tryd.func5, Tryd.ntmps5
  go_wp2_with (first
    | (refine wpList_load_row rfl 26 _ rfl w.heap.size rfl 26 (cc a) (0, 0) _ S0.out.1 Tryd.underlying26 rfl (by kernel_rfl) ?_)
    | (refine wpList_load_row rfl 26 _ rfl (w.heap.size + 1) rfl 26 (cc b) (0, 0) _ S0.out.2.1 Tryd.underlying26 rfl (by kernel_rfl) ?_))
  refine (HL.out _ S0.out.2.2.tab S0.out.2.2.lt).mono ?_
  rintro e w1 ⟨v, rfl, ho, hw1⟩
  obtain ⟨g, cap, hv, _, _⟩ := World.ownsRow.form ho hn
  subst hv
  have S1 := Lib.hid (PartS.start S0.out hz ho hn hw1)
  clear ho hw1 S0 HL
  go_wp2_with fail
  go_loopg [6] l.length (fun k i wr => ∃ r : Nat, r + k = l.length ∧ i = .int .i64 r ∧ PartS w a b g l wr)
  case atStart => exact ⟨0, by omega, rfl, S1.out⟩
  case round =>
    clear S1
    obtain ⟨r, hr, rfl, hS⟩ := hrel
    have HS := Lib.hid hS
    clear hS
    by_cases hlt : r < l.length
    · have hltI : (r : Int) < (l.length : Int) := by omega
      have hdI : decide ((r : Int) < (l.length : Int)) = true := decide_eq_true hltI
      obtain ⟨q1, q2, q3⟩ := H1.out _ (nth_mem hlt)
      have WX := L0.out _ (nth_mem hlt)
      have HX5 := Lib.hid fun W t z => cmeet_any (nth l r) b WX.nonneg B0.out.nonneg W t z
      have HX6 := Lib.hid fun W t z => cwithin_any (nth l r) a WX.nonneg A0.out.nonneg W t z
      have HX7 := Lib.hid fun W t z => csound_any (nth l r) WX.nonneg W t z
      rw [metV, q3] at HX5
      rw [q2] at HX6
      rw [q1] at HX7
      have HW := Lib.hid WX
      clear WX q1 q2 q3
      go_upto_region 5 with (fail)
      go_cut [7, 8] (fun _ ok W => ok = .bool false ∧ PartS w a b g l W)
      case first =>
        refine wp_region_held_drew (S := PartS w a b g l) (by kernel_rfl) (PartS.below (Below.refl _ _).drew HS.out) (fun hS => ?_)
        clear HS
        generalize wr.drew = V5 at *
        refine seqRead 0 (v := _) rfl (by kernel_rfl) (by kernel_rfl) (by kernel_rfl) (fun _ _ _ h => h) rfl (fun w hSw => by go_simp <;> with_reducible rfl) hS ?_
        try simp only [Act.put, List.setIfInBounds_toArray, List.set_cons_zero, List.set_cons_succ]
        refine seqRead 1 (v := _) rfl (by kernel_rfl) (by kernel_rfl) (by kernel_rfl) (fun _ _ _ h => h) rfl (fun w hSw => by go_simp <;> with_reducible rfl) hS ?_
        try simp only [Act.put, List.setIfInBounds_toArray, List.set_cons_zero, List.set_cons_succ]
        refine seqRead 2 (v := _) rfl (by kernel_rfl) (by kernel_rfl) (by kernel_rfl) (fun _ _ _ h => h) rfl (fun w hSw => by go_simp <;> with_reducible rfl) hS ?_
        try simp only [Act.put, List.setIfInBounds_toArray, List.set_cons_zero, List.set_cons_succ]
        refine seqRead 3 (v := _) rfl (by kernel_rfl) (by kernel_rfl) (by kernel_rfl) (fun _ _ _ h => h) rfl (fun w hSw => execRow rfl g (r * 24) rfl (cl (nth l r)) _ (hSw.at hlt) Tryd.underlying26 rfl infoCube) hS ?_
        try simp only [Act.put, List.setIfInBounds_toArray, List.set_cons_zero, List.set_cons_succ]
        refine seqRead 4 (v := _) rfl (by kernel_rfl) (by kernel_rfl) (by kernel_rfl) (fun _ _ _ h => h) rfl (fun w hSw => execBlk rfl _ rfl hSw.2.1 Tryd.underlying26 rfl (by kernel_rfl)) hS ?_
        try simp only [Act.put, List.setIfInBounds_toArray, List.set_cons_zero, List.set_cons_succ]
        refine seqActs2 5 9 rfl rfl (by kernel_rfl) rfl (fun K hK => ?_) rfl (fun K hK => ?_)
        · go_simp
          refine (HX5.out _ hS.env.tab hS.env.lt).mono ?_
          rintro e v1 ⟨rfl, hv1⟩
          refine hK.out _ _ (PartS.below hv1 hS) (fun hS => ?_)
          clear hK K
          clear hv1
          try simp only [Act.put, List.setIfInBounds_toArray, List.set_cons_zero, List.set_cons_succ]
          refine seqRead 6 (v := _) rfl (by kernel_rfl) (by kernel_rfl) (by kernel_rfl) (fun _ _ _ h => h) rfl (fun w hSw => by go_simp <;> with_reducible rfl) hS ?_
          try simp only [Act.put, List.setIfInBounds_toArray, List.set_cons_zero, List.set_cons_succ]
          refine seqRead 7 (v := _) rfl (by kernel_rfl) (by kernel_rfl) (by kernel_rfl) (fun _ _ _ h => h) rfl (fun w hSw => by go_simp <;> with_reducible rfl) hS ?_
          try simp only [Act.put, List.setIfInBounds_toArray, List.set_cons_zero, List.set_cons_succ]
          refine seqRead 8 (v := _) rfl (by kernel_rfl) (by kernel_rfl) (by kernel_rfl) (fun _ _ _ h => h) rfl (fun w hSw => by go_simp <;> with_reducible rfl) hS ?_
          try simp only [Act.put, List.setIfInBounds_toArray, List.set_cons_zero, List.set_cons_succ]
          refine seqCall 9 rfl (by kernel_rfl) rfl (fun K hK => ?_)
          go_simp
          have XG := Lib.hid hS.ge
          have X := Lib.hid (Blk.new v1 #[Value.int IntKind.u64 0, Value.int IntKind.u64 0, Value.int IntKind.u64 0, Value.int IntKind.u64 0, Value.int IntKind.u64 0, Value.int IntKind.u64 0, Value.int IntKind.u64 0, Value.int IntKind.u64 0, Value.int IntKind.u64 0, Value.int IntKind.u64 0, Value.int IntKind.u64 0, Value.int IntKind.u64 0, Value.int IntKind.u64 0, Value.int IntKind.u64 0, Value.int IntKind.u64 0, Value.int IntKind.u64 0, Value.int IntKind.u64 0, Value.int IntKind.u64 0, Value.int IntKind.u64 0, Value.int IntKind.u64 0, Value.int IntKind.u64 0, Value.int IntKind.u64 0, Value.int IntKind.u64 0, Value.int IntKind.u64 0] 26)
          refine hK.out _ _ (PartS.below (below1 _ _) hS) (fun hS => ?_)
          clear hK K
          try simp only [Act.put, List.setIfInBounds_toArray, List.set_cons_zero, List.set_cons_succ]
          refine seqCall 10 rfl (by kernel_rfl) rfl (fun K hK => ?_)
          refine wp_store_row 26 _ _ rfl v1.heap.size (cc zh) rfl rfl 26 _ X.out (by kernel_rfl) rfl (cc_one _) (hK.out _ _ (PartS.setRow XG.out hS) (fun hS => ?_))
          clear hK K
          try simp only [Act.put]
          refine seqRead 11 (v := _) rfl (by kernel_rfl) (by kernel_rfl) (by kernel_rfl) (fun _ _ _ h => h) rfl (fun w hSw => by go_simp <;> with_reducible rfl) hS ?_
          try simp only [Act.put, List.setIfInBounds_toArray, List.set_cons_zero, List.set_cons_succ]
          refine seqDone (by kernel_rfl) ?_
          go_wp2_with fail
          go_meet
          case rel => exact ⟨rfl, hS⟩
        · go_simp
          have XG := Lib.hid hS.ge
          have X := Lib.hid (Blk.new V5 #[Value.int IntKind.u64 0, Value.int IntKind.u64 0, Value.int IntKind.u64 0, Value.int IntKind.u64 0, Value.int IntKind.u64 0, Value.int IntKind.u64 0, Value.int IntKind.u64 0, Value.int IntKind.u64 0, Value.int IntKind.u64 0, Value.int IntKind.u64 0, Value.int IntKind.u64 0, Value.int IntKind.u64 0, Value.int IntKind.u64 0, Value.int IntKind.u64 0, Value.int IntKind.u64 0, Value.int IntKind.u64 0, Value.int IntKind.u64 0, Value.int IntKind.u64 0, Value.int IntKind.u64 0, Value.int IntKind.u64 0, Value.int IntKind.u64 0, Value.int IntKind.u64 0, Value.int IntKind.u64 0, Value.int IntKind.u64 0] 26)
          refine hK.out _ _ (PartS.below (below1 _ _) hS) (fun hS => ?_)
          clear hK K
          try simp only [Act.put, List.setIfInBounds_toArray, List.set_cons_zero, List.set_cons_succ]
          refine seqCall 5 rfl (by kernel_rfl) rfl (fun K hK => ?_)
          go_simp
          refine (HX5.out _ hS.env.tab hS.env.lt).mono ?_
          rintro e v1 ⟨rfl, hv1⟩
          refine hK.out _ _ (PartS.below hv1 hS) (fun hS => ?_)
          clear hK K
          have X := Lib.hid (X.out.below hv1)
          clear hv1
          try simp only [Act.put, List.setIfInBounds_toArray, List.set_cons_zero, List.set_cons_succ]
          refine seqRead 6 (v := _) rfl (by kernel_rfl) (by kernel_rfl) (by kernel_rfl) (fun _ _ _ h => h) rfl (fun w hSw => by go_simp <;> with_reducible rfl) hS ?_
          try simp only [Act.put, List.setIfInBounds_toArray, List.set_cons_zero, List.set_cons_succ]
          refine seqRead 7 (v := _) rfl (by kernel_rfl) (by kernel_rfl) (by kernel_rfl) (fun _ _ _ h => h) rfl (fun w hSw => by go_simp <;> with_reducible rfl) hS ?_
          try simp only [Act.put, List.setIfInBounds_toArray, List.set_cons_zero, List.set_cons_succ]
          refine seqRead 8 (v := _) rfl (by kernel_rfl) (by kernel_rfl) (by kernel_rfl) (fun _ _ _ h => h) rfl (fun w hSw => by go_simp <;> with_reducible rfl) hS ?_
          try simp only [Act.put, List.setIfInBounds_toArray, List.set_cons_zero, List.set_cons_succ]
          refine seqCall 10 rfl (by kernel_rfl) rfl (fun K hK => ?_)
          refine wp_store_row 26 _ _ rfl V5.heap.size (cc zh) rfl rfl 26 _ X.out (by kernel_rfl) rfl (cc_one _) (hK.out _ _ (PartS.setRow XG.out hS) (fun hS => ?_))
          clear hK K
          try simp only [Act.put]
          refine seqRead 11 (v := _) rfl (by kernel_rfl) (by kernel_rfl) (by kernel_rfl) (fun _ _ _ h => h) rfl (fun w hSw => by go_simp <;> with_reducible rfl) hS ?_
          try simp only [Act.put, List.setIfInBounds_toArray, List.set_cons_zero, List.set_cons_succ]
          refine seqDone (by kernel_rfl) ?_
          go_wp2_with fail
          go_meet
          case rel => exact ⟨rfl, hS⟩
      case rest =>
        clear HS HX5
        obtain ⟨rfl, hS⟩ := hcut
        go_wp2_with fail
        refine wp_region_held_drew (S := PartS w a b g l) (by kernel_rfl) (PartS.below (Below.refl _ _).drew hS) (fun hS => ?_)
        refine seqRead 0 (v := _) rfl (by kernel_rfl) (by kernel_rfl) (by kernel_rfl) (fun _ _ _ h => h) rfl (fun w hSw => by go_simp <;> with_reducible rfl) hS ?_
        try simp only [Act.put, List.setIfInBounds_toArray, List.set_cons_zero, List.set_cons_succ]
        refine seqRead 1 (v := _) rfl (by kernel_rfl) (by kernel_rfl) (by kernel_rfl) (fun _ _ _ h => h) rfl (fun w hSw => by go_simp <;> with_reducible rfl) hS ?_
        try simp only [Act.put, List.setIfInBounds_toArray, List.set_cons_zero, List.set_cons_succ]
        refine seqRead 2 (v := _) rfl (by kernel_rfl) (by kernel_rfl) (by kernel_rfl) (fun _ _ _ h => h) rfl (fun w hSw => by go_simp <;> with_reducible rfl) hS ?_
        try simp only [Act.put, List.setIfInBounds_toArray, List.set_cons_zero, List.set_cons_succ]
        refine seqRead 3 (v := _) rfl (by kernel_rfl) (by kernel_rfl) (by kernel_rfl) (fun _ _ _ h => h) rfl (fun w hSw => by go_simp <;> with_reducible rfl) hS ?_
        try simp only [Act.put, List.setIfInBounds_toArray, List.set_cons_zero, List.set_cons_succ]
        refine seqRead 4 (v := _) rfl (by kernel_rfl) (by kernel_rfl) (by kernel_rfl) (fun _ _ _ h => h) rfl (fun w hSw => by go_simp <;> with_reducible rfl) hS ?_
        try simp only [Act.put, List.setIfInBounds_toArray, List.set_cons_zero, List.set_cons_succ]
        refine seqRead 5 (v := _) rfl (by kernel_rfl) (by kernel_rfl) (by kernel_rfl) (fun _ _ _ h => h) rfl (fun w hSw => execRow rfl g (r * 24) rfl (cl (nth l r)) _ (hSw.at hlt) Tryd.underlying26 rfl infoCube) hS ?_
        try simp only [Act.put, List.setIfInBounds_toArray, List.set_cons_zero, List.set_cons_succ]
        refine seqRead 6 (v := _) rfl (by kernel_rfl) (by kernel_rfl) (by kernel_rfl) (fun _ _ _ h => h) rfl (fun w hSw => execBlk rfl _ rfl hSw.1 Tryd.underlying26 rfl (by kernel_rfl)) hS ?_
        try simp only [Act.put, List.setIfInBounds_toArray, List.set_cons_zero, List.set_cons_succ]
        refine seqCall 7 rfl (by kernel_rfl) rfl (fun K hK => ?_)
        go_simp
        refine (HX6.out _ hS.env.tab hS.env.lt).mono ?_
        rintro e v61 ⟨rfl, hv61⟩
        refine hK.out _ _ (PartS.below hv61 hS) (fun hS => ?_)
        clear hK K
        clear hv61
        try simp only [Act.put, List.setIfInBounds_toArray, List.set_cons_zero, List.set_cons_succ]
        refine seqRead 8 (v := _) rfl (by kernel_rfl) (by kernel_rfl) (by kernel_rfl) (fun _ _ _ h => h) rfl (fun w hSw => by go_simp <;> with_reducible rfl) hS ?_
        try simp only [Act.put, List.setIfInBounds_toArray, List.set_cons_zero, List.set_cons_succ]
        refine seqRead 9 (v := _) rfl (by kernel_rfl) (by kernel_rfl) (by kernel_rfl) (fun _ _ _ h => h) rfl (fun w hSw => by go_simp <;> with_reducible rfl) hS ?_
        try simp only [Act.put, List.setIfInBounds_toArray, List.set_cons_zero, List.set_cons_succ]
        refine seqRead 10 (v := _) rfl (by kernel_rfl) (by kernel_rfl) (by kernel_rfl) (fun _ _ _ h => h) rfl (fun w hSw => by go_simp <;> with_reducible rfl) hS ?_
        try simp only [Act.put, List.setIfInBounds_toArray, List.set_cons_zero, List.set_cons_succ]
        refine seqRead 11 (v := _) rfl (by kernel_rfl) (by kernel_rfl) (by kernel_rfl) (fun _ _ _ h => h) rfl (fun w hSw => by go_simp <;> with_reducible rfl) hS ?_
        try simp only [Act.put, List.setIfInBounds_toArray, List.set_cons_zero, List.set_cons_succ]
        refine seqRead 12 (v := _) rfl (by kernel_rfl) (by kernel_rfl) (by kernel_rfl) (fun _ _ _ h => h) rfl (fun w hSw => by go_simp <;> with_reducible rfl) hS ?_
        try simp only [Act.put, List.setIfInBounds_toArray, List.set_cons_zero, List.set_cons_succ]
        refine seqRead 13 (v := _) rfl (by kernel_rfl) (by kernel_rfl) (by kernel_rfl) (fun _ _ _ h => h) rfl (fun w hSw => by go_simp <;> with_reducible rfl) hS ?_
        try simp only [Act.put, List.setIfInBounds_toArray, List.set_cons_zero, List.set_cons_succ]
        refine seqRead 14 (v := _) rfl (by kernel_rfl) (by kernel_rfl) (by kernel_rfl) (fun _ _ _ h => h) rfl (fun w hSw => execRow rfl g (r * 24) rfl (cl (nth l r)) _ (hSw.at hlt) Tryd.underlying26 rfl infoCube) hS ?_
        try simp only [Act.put, List.setIfInBounds_toArray, List.set_cons_zero, List.set_cons_succ]
        refine seqCall 15 rfl (by kernel_rfl) rfl (fun K hK => ?_)
        go_simp
        refine (HX7.out _ hS.env.tab hS.env.lt).mono ?_
        rintro e v62 ⟨rfl, hv62⟩
        refine hK.out _ _ (PartS.below hv62 hS) (fun hS => ?_)
        clear hK K
        clear hv62
        try simp only [Act.put, List.setIfInBounds_toArray, List.set_cons_zero, List.set_cons_succ]
        refine seqRead 16 (v := _) rfl (by kernel_rfl) (by kernel_rfl) (by kernel_rfl) (fun _ _ _ h => h) rfl (fun w hSw => by go_simp <;> with_reducible rfl) hS ?_
        try simp only [Act.put, List.setIfInBounds_toArray, List.set_cons_zero, List.set_cons_succ]
        refine seqRead 17 (v := _) rfl (by kernel_rfl) (by kernel_rfl) (by kernel_rfl) (fun _ _ _ h => h) rfl (fun w hSw => by go_simp <;> with_reducible rfl) hS ?_
        try simp only [Act.put, List.setIfInBounds_toArray, List.set_cons_zero, List.set_cons_succ]
        refine seqDone (by kernel_rfl) ?_
        have HS := Lib.hid hS
        clear hS HX6 HX7
        go_wp2_with fail
        go_loopg [9] r (fun k j wr => ∃ q : Nat, q + k = r ∧ j = .int .i64 q ∧ PartS w a b g l wr)
        case atStart => exact ⟨0, by omega, rfl, HS.out⟩
        case round =>
          clear HS
          obtain ⟨q, hqk, rfl, hS⟩ := hrel
          have HS := Lib.hid hS
          clear hS
          by_cases hqr : q < r
          · have hq : q < l.length := by omega
            have hqI : (q : Int) < (l.length : Int) := by omega
            have hdQ : decide ((q : Int) < (r : Int)) = true := decide_eq_true (by omega)
            have HX8 := Lib.hid fun W t z => cmeet_any (nth l r) (nth l q) HW.out.nonneg (L0.out _ (nth_mem hq)).nonneg W t z
            rw [metV, H2.out q r hqr hlt] at HX8
            go_wp2_with fail
            refine wp_region_held_drew (S := PartS w a b g l) (by kernel_rfl) (PartS.below (Below.refl _ _).drew HS.out) (fun hS => ?_)
            clear HS
            refine seqRead 0 (v := _) rfl (by kernel_rfl) (by kernel_rfl) (by kernel_rfl) (fun _ _ _ h => h) rfl (fun w hSw => by go_simp <;> with_reducible rfl) hS ?_
            try simp only [Act.put, List.setIfInBounds_toArray, List.set_cons_zero, List.set_cons_succ]
            refine seqRead 1 (v := _) rfl (by kernel_rfl) (by kernel_rfl) (by kernel_rfl) (fun _ _ _ h => h) rfl (fun w hSw => by go_simp <;> with_reducible rfl) hS ?_
            try simp only [Act.put, List.setIfInBounds_toArray, List.set_cons_zero, List.set_cons_succ]
            refine seqRead 2 (v := _) rfl (by kernel_rfl) (by kernel_rfl) (by kernel_rfl) (fun _ _ _ h => h) rfl (fun w hSw => by go_simp <;> with_reducible rfl) hS ?_
            try simp only [Act.put, List.setIfInBounds_toArray, List.set_cons_zero, List.set_cons_succ]
            refine seqRead 3 (v := _) rfl (by kernel_rfl) (by kernel_rfl) (by kernel_rfl) (fun _ _ _ h => h) rfl (fun w hSw => execRow rfl g (r * 24) rfl (cl (nth l r)) _ (hSw.at hlt) Tryd.underlying26 rfl infoCube) hS ?_
            try simp only [Act.put, List.setIfInBounds_toArray, List.set_cons_zero, List.set_cons_succ]
            refine seqRead 4 (v := _) rfl (by kernel_rfl) (by kernel_rfl) (by kernel_rfl) (fun _ _ _ h => h) rfl (fun w hSw => by go_simp <;> with_reducible rfl) hS ?_
            try simp only [Act.put, List.setIfInBounds_toArray, List.set_cons_zero, List.set_cons_succ]
            refine seqRead 5 (v := _) rfl (by kernel_rfl) (by kernel_rfl) (by kernel_rfl) (fun _ _ _ h => h) rfl (fun w hSw => by go_simp <;> with_reducible rfl) hS ?_
            try simp only [Act.put, List.setIfInBounds_toArray, List.set_cons_zero, List.set_cons_succ]
            refine seqRead 6 (v := _) rfl (by kernel_rfl) (by kernel_rfl) (by kernel_rfl) (fun _ _ _ h => h) rfl (fun w hSw => by go_simp <;> with_reducible rfl) hS ?_
            try simp only [Act.put, List.setIfInBounds_toArray, List.set_cons_zero, List.set_cons_succ]
            refine seqRead 7 (v := _) rfl (by kernel_rfl) (by kernel_rfl) (by kernel_rfl) (fun _ _ _ h => h) rfl (fun w hSw => execRow rfl g (q * 24) rfl (cl (nth l q)) _ (hSw.at hq) Tryd.underlying26 rfl infoCube) hS ?_
            try simp only [Act.put, List.setIfInBounds_toArray, List.set_cons_zero, List.set_cons_succ]
            refine seqCall 8 rfl (by kernel_rfl) rfl (fun K hK => ?_)
            go_simp
            refine (HX8.out _ hS.env.tab hS.env.lt).mono ?_
            rintro e v81 ⟨rfl, hv81⟩
            refine hK.out _ _ (PartS.below hv81 hS) (fun hS => ?_)
            clear hK K
            clear hv81
            try simp only [Act.put, List.setIfInBounds_toArray, List.set_cons_zero, List.set_cons_succ]
            refine seqRead 9 (v := _) rfl (by kernel_rfl) (by kernel_rfl) (by kernel_rfl) (fun _ _ _ h => h) rfl (fun w hSw => by go_simp <;> with_reducible rfl) hS ?_
            try simp only [Act.put, List.setIfInBounds_toArray, List.set_cons_zero, List.set_cons_succ]
            refine seqRead 10 (v := _) rfl (by kernel_rfl) (by kernel_rfl) (by kernel_rfl) (fun _ _ _ h => h) rfl (fun w hSw => by go_simp <;> with_reducible rfl) hS ?_
            try simp only [Act.put, List.setIfInBounds_toArray, List.set_cons_zero, List.set_cons_succ]
            refine seqRead 11 (v := _) rfl (by kernel_rfl) (by kernel_rfl) (by kernel_rfl) (fun _ _ _ h => h) rfl (fun w hSw => by go_simp <;> with_reducible rfl) hS ?_
            try simp only [Act.put, List.setIfInBounds_toArray, List.set_cons_zero, List.set_cons_succ]
            refine seqRead 12 (v := _) rfl (by kernel_rfl) (by kernel_rfl) (by kernel_rfl) (fun _ _ _ h => h) rfl (fun w hSw => by go_simp <;> with_reducible rfl) hS ?_
            try simp only [Act.put, List.setIfInBounds_toArray, List.set_cons_zero, List.set_cons_succ]
            refine seqDone (by kernel_rfl) ?_
            have HS := Lib.hid hS
            clear hS HX8
            go_wp2_with fail
            go_roundg (r - (q + 1))
            case measure => omega
            case rel => exact ⟨q + 1, by omega, by go_num, HS.out⟩
          · have hdQ : decide ((q : Int) < (r : Int)) = false := decide_eq_false (by omega)
            go_wp2_with fail
            go_roundg (l.length - (r + 1))
            case measure => omega
            case rel => exact ⟨r + 1, by omega, by go_num, HS.out⟩
    · have hdI : decide ((r : Int) < (l.length : Int)) = false := decide_eq_false (by omega)
      go_wp2_with fail
      refine (canswers _ HS.out.env.tab HS.out.env.lt).mono ?_
      rintro e w2 ⟨rfl, hw2⟩
      have HS2 := Lib.hid (PartS.below hw2 HS.out)
      clear hw2 HS
      go_wp2_with (first
        | (refine loadRowG rfl 26 _ rfl w.heap.size rfl 26 (cc a) (0, 0) HS2.out.1 Tryd.underlying26 rfl (by kernel_rfl) ?_)
        | (refine loadRowG rfl 26 _ rfl (w.heap.size + 1) rfl 26 (cc b) (0, 0) HS2.out.2.1 Tryd.underlying26 rfl (by kernel_rfl) ?_))
      refine (cwithin_any a b A0.out.nonneg B0.out.nonneg _ HS2.out.env.tab HS2.out.env.lt).mono ?_
      rintro e w3 ⟨rfl, hw3⟩
      have HB := Lib.hid (PartS.below hw3 HS2.out).env.kept
      clear hw3 HS2
      have hm2 : decide ((l.length : Int) ≤ 248) = true := decide_eq_true (by omega)
      go_wp2
      go_ret
      exact ⟨rfl, HB.out⟩
set_option maxHeartbeats 1000000 in
theorem parts_none (a b : Nat → Int) (ha : Wf a) (hb : Wf b) (w : World) (ht : Tab w) (hz : 0 < w.heap.size)
    (hless : ∀ W, Tab W → 0 < W.heap.size → Calls Tryd.prog 23 #[.agg (cc a), .agg (cc b)] W (LessRet W [])) :
    Calls Tryd.prog 5 #[.agg (cc a), .agg (cc b)] w fun e w' => e = .returned (.bool true) ∧ Below w.heap.size w w' := by
  have S0 := Lib.hid (Pair.start ht hz a b)
  have A0 := Lib.hid ha
  have B0 := Lib.hid hb
  have HL := Lib.hid hless
  clear ht ha hb hless
  go_enter Tryd.func5, Tryd.ntmps5
  go_wp2_with (first
    | (refine wpList_load_row rfl 26 _ rfl w.heap.size rfl 26 (cc a) (0, 0) _ S0.out.1 Tryd.underlying26 rfl (by kernel_rfl) ?_)
    | (refine wpList_load_row rfl 26 _ rfl (w.heap.size + 1) rfl 26 (cc b) (0, 0) _ S0.out.2.1 Tryd.underlying26 rfl (by kernel_rfl) ?_))
  refine (HL.out _ S0.out.2.2.tab S0.out.2.2.lt).mono ?_
  rintro e w1 ⟨v, rfl, ho, hw1⟩
  obtain ⟨p, cap, hv⟩ := ho.form
  rw [List.length_nil] at hv
  subst hv
  have S1 := Lib.hid (Pair.below hw1 S0.out)
  clear ho hw1 S0 HL
  go_wp2_with fail
  go_loopg [6] 0 (fun _ i wr => i = .int .i64 0 ∧ Pair w a b wr)
  case atStart => exact ⟨rfl, S1.out⟩
  case round =>
    clear S1
    obtain ⟨rfl, hS⟩ := hrel
    have HS := Lib.hid hS
    clear hS
    go_wp2_with fail
    refine (canswers _ HS.out.2.2.tab HS.out.2.2.lt).mono ?_
    rintro e w2 ⟨rfl, hw2⟩
    have HS2 := Lib.hid (Pair.below hw2 HS.out)
    clear hw2 HS
    go_wp2_with (first
      | (refine loadRowG rfl 26 _ rfl w.heap.size rfl 26 (cc a) (0, 0) HS2.out.1 Tryd.underlying26 rfl (by kernel_rfl) ?_)
      | (refine loadRowG rfl 26 _ rfl (w.heap.size + 1) rfl 26 (cc b) (0, 0) HS2.out.2.1 Tryd.underlying26 rfl (by kernel_rfl) ?_))
    refine (cwithin_any a b A0.out.nonneg B0.out.nonneg _ HS2.out.2.2.tab HS2.out.2.2.lt).mono ?_
    rintro e w3 ⟨rfl, hw3⟩
    have HB := Lib.hid (Pair.below hw3 HS2.out).2.2.kept
    clear hw3 HS2
    cases hin : inB a b
    all_goals
      go_wp2
      go_ret
      exact ⟨rfl, HB.out⟩
theorem cubeParts_any (a : Nat → Int) (ha : Wf a) (b : Nat → Int) (hb : Wf b) (w : World) (ht : Tab w) (hz : 0 < w.heap.size) :
    Calls Tryd.prog 5 #[.agg (cc a), .agg (cc b)] w fun e w' => e = .returned (.bool true) ∧ Below w.heap.size w w' := by
  have hless := fun W t z => cless_any a b ha hb W t z
  obtain ⟨p1, p2⟩ := less_parts ha hb
  have hlen := less_len ha hb
  have hnone := fun h => less_none ha hb h
  have hwf := lessL_wf ha hb
  generalize lessL a b = l at *
  by_cases hn : 0 < l.length
  · refine parts_some a b l ha hb hwf p1 (fun i j hij hj => ?_) hn hlen ?_ w ht hz hless
    · have := List.pairwise_iff_getElem.1 p2 i j (by omega) hj hij
      unfold nth
      rw [List.getD_eq_getElem?_getD, List.getD_eq_getElem?_getD, List.getElem?_eq_getElem hj, List.getElem?_eq_getElem (show i < l.length by omega)]
      exact this
    · cases h : inB a b
      · rfl
      · rw [hnone h] at hn; exact absurd hn (by simp)
  · obtain rfl : l = [] := List.length_eq_zero_iff.1 (by omega)
    exact parts_none a b ha hb w ht hz hless
end Go.Proofs.YtioiecaklbifnaaDoor
