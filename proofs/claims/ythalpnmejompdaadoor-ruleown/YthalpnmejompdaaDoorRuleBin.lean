/-
  The walks of the function that Sort hands on, and of slices.BinarySearchFunc.
-/
import Derived.Test.YthalpnmejompdaaDoorRulePr2
import Derived.Test.YthalpnmejompdaaDoorRuleIns
namespace Go.Proofs.YthalpnmejompdaaDoor
open Go.RowKit

/-- the list in its box, the rules, the rule looked for -/
def SbS (B0 : Nat) (v : Value) (l : List Rm) (wb : Nat) (r : Rm) (W : World) : Prop := Blk B0 #[v] 33 W ∧ KLies KR v l W ∧ Blk wb (rca r) 29 W
section
variable {B0 : Nat} {v : Value} {l : List Rm} {wb : Nat} {r : Rm} {W W' : World}
theorem SbS.below (hb : Below W.heap.size W W') (h : SbS B0 v l wb r W) : SbS B0 v l wb r W' := ⟨h.1.below hb, h.2.1.below okR hb, h.2.2.below hb⟩
theorem SbS.cell (h : SbS B0 v l wb r W) : W.cell? ⟨B0, 0, none⟩ = some v := (cell_of_row W B0 0 _ _ _ h.1).trans rfl
end
theorem KLies.cellI {b o n cap : Nat} {l : List Nat} {W : World} (h : KLies KI (.slice (some ⟨b, o, none⟩) n cap) l W) {i x : Nat} (hi : l[i]? = some x) : W.cell? ⟨b, o + i, none⟩ = some (.int .i64 (x : Int)) := by
  have := h.at' hi 0 _ rfl
  rwa [Nat.add_zero, show i * KI.n = i from Nat.mul_one i] at this
set_option maxRecDepth 100000 in
set_option maxHeartbeats 1000000 in
theorem sort1_any (B0 : Nat) (v : Value) (l : List Rm) (i : Nat) (x r : Rm) (hi : l[i]? = some x) (w : World) (hB : Blk B0 #[v] 33 w) (hl : KLies KR v l w) :
    Calls Tryd.prog 40 #[.int .i64 (i : Int), .agg (rca r), .pointer (some ⟨B0, 0, none⟩)] w fun e w' => e = .returned (.int .i64 (rOrd x.u r.u)) ∧ Below w.heap.size w w' := by
  obtain ⟨p, cap, rfl⟩ := hl.form
  obtain ⟨b, o, rfl, _⟩ := hl.at hi
  have hlt : i < l.length := (List.getElem?_eq_some_iff.1 hi).1
  have hltI : (i : Int) < (l.length : Int) := by omega
  have HI := Lib.hid hi
  have HS := Lib.hid (show SbS B0 (.slice (some ⟨b, o, none⟩) l.length cap) l w.heap.size r (w.alloc (.cells (rca r) 29)) from ⟨hB.below (below1 _ _), hl.below okR (below1 _ _), Blk.new _ _ _⟩)
  have HB := Lib.hid (below1 w (.cells (rca r) 29))
  clear hi hl hB
  go_enter Tryd.func40, Tryd.ntmps40
  go_upto_region 1 with fail
  refine wp_region_held_drew (S := SbS B0 (.slice (some ⟨b, o, none⟩) l.length cap) l w.heap.size r) (by kernel_rfl) (SbS.below (Below.refl _ _).drew HS.out) (fun hS => ?_)
  have HB1 := Lib.hid HB.out.drew
  clear HB HS
  generalize (w.alloc (.cells (rca r) 29)).drew = W at *
  refine seqRead 0 (v := _) rfl (by kernel_rfl) (by kernel_rfl) (by kernel_rfl) (fun _ _ _ h => h) rfl (fun w hSw => by have hc := hSw.cell; go_simp <;> with_reducible rfl) hS ?_
  try simp only [Act.put, List.setIfInBounds_toArray, List.set_cons_zero, List.set_cons_succ]
  refine seqRead 1 (v := _) rfl (by kernel_rfl) (by kernel_rfl) (by kernel_rfl) (fun _ _ _ h => h) rfl (fun w hSw => by go_simp <;> with_reducible rfl) hS ?_
  try simp only [Act.put, List.setIfInBounds_toArray, List.set_cons_zero, List.set_cons_succ]
  refine seqRead 2 (v := _) rfl (by kernel_rfl) (by kernel_rfl) (by kernel_rfl) (fun _ _ _ h => h) rfl (fun w hSw => by go_simp <;> with_reducible rfl) hS ?_
  try simp only [Act.put, List.setIfInBounds_toArray, List.set_cons_zero, List.set_cons_succ]
  refine seqRead 3 (v := _) rfl (by kernel_rfl) (by kernel_rfl) (by kernel_rfl) (fun _ _ _ h => h) rfl (fun w hSw => execRow rfl b (o + i * 32) rfl (rcl x) _ (hSw.2.1.at' HI.out) Tryd.underlying29 rfl infoR) hS ?_
  try simp only [Act.put, List.setIfInBounds_toArray, List.set_cons_zero, List.set_cons_succ]
  refine seqRead 4 (v := _) rfl (by kernel_rfl) (by kernel_rfl) (by kernel_rfl) (fun _ _ _ h => h) rfl (fun w hSw => execRow0 rfl _ rfl hSw.2.2 Tryd.underlying29 rfl infoR) hS ?_
  try simp only [Act.put, List.setIfInBounds_toArray, List.set_cons_zero, List.set_cons_succ]
  refine seqCall 5 rfl (by kernel_rfl) rfl (fun K hK => ?_)
  go_simp
  refine (order_any x r _).mono ?_
  rintro e w1 ⟨rfl, hw1⟩
  refine hK.out _ _ (SbS.below hw1 hS) (fun hS => ?_)
  clear hK K
  try simp only [Act.put, List.setIfInBounds_toArray, List.set_cons_zero, List.set_cons_succ]
  refine seqRead 6 (v := _) rfl (by kernel_rfl) (by kernel_rfl) (by kernel_rfl) (fun _ _ _ h => h) rfl (fun w hSw => by go_simp <;> with_reducible rfl) hS ?_
  try simp only [Act.put, List.setIfInBounds_toArray, List.set_cons_zero, List.set_cons_succ]
  refine seqDone (by kernel_rfl) ?_
  have HB2 := Lib.hid (HB1.out.trans (hw1.mono HB1.out.size))
  clear hS hw1
  go_wp2_with fail
  go_ret
  exact ⟨rfl, HB2.out⟩
/-- the numbers, the rule looked for -/
def BsS (w0 : World) (pv : Value) (P : List Nat) (wb : Nat) (r : Rm) (W : World) : Prop := KLies KI pv P W ∧ Blk wb (rca r) 29 W ∧ Below w0.heap.size w0 W
theorem BsS.below {w0 : World} {pv : Value} {P : List Nat} {wb : Nat} {r : Rm} {W W' : World} (hb : Below W.heap.size W W') (h : BsS w0 pv P wb r W) : BsS w0 pv P wb r W' := ⟨h.1.below okI hb, h.2.1.below hb, h.2.2.trans (hb.mono h.2.2.size)⟩
/-- what BinarySearchFunc gives -/
def BsRet (P : List Nat) (ord : Nat → Int) (w : World) (e : Ending) (w' : World) : Prop :=
  ∃ (c : Nat) (f : Bool), e = .returned (.tuple #[.int .i64 (c : Int), .bool f]) ∧ c ≤ P.length ∧ (∀ (j : Nat) x, j < c → P[j]? = some x → ord x < 0) ∧ (∀ (j : Nat) x, c ≤ j → P[j]? = some x → 0 ≤ ord x) ∧ (f = true ↔ ∃ x, P[c]? = some x ∧ ord x = 0) ∧ Below w.heap.size w w'
set_option maxRecDepth 100000 in
set_option maxHeartbeats 2000000 in
theorem bsearch_any (pv : Value) (P : List Nat) (r : Rm) (ord : Nat → Int) (cb : Array Value) (hP : P.length ≤ 1000000) (w : World) (hl : KLies KI pv P w)
    (hcall : ∀ W, Below w.heap.size w W → ∀ (j x : Nat), P[j]? = some x → Calls Tryd.prog 40 (#[.int .i64 (x : Int), .agg (rca r)] ++ cb) W fun e w' => e = .returned (.int .i64 (ord x)) ∧ Below W.heap.size W w')
    (hmono : ∀ (i j x y : Nat), i ≤ j → P[i]? = some x → P[j]? = some y → ord y < 0 → ord x < 0) :
    Calls Tryd.prog 39 #[pv, .agg (rca r), .func (.func 40) #[] cb] w (BsRet P ord w) := by
  obtain ⟨p, cap, rfl⟩ := hl.form
  have HS := Lib.hid (show BsS w (.slice p P.length cap) P w.heap.size r (w.alloc (.cells (rca r) 29)) from ⟨hl.below okI (below1 _ _), Blk.new _ _ _, below1 _ _⟩)
  have HC := Lib.hid hcall
  have HM := Lib.hid hmono
  have eg : ∀ args w, (callFunc 40 args).run Tryd.prog w = .ok (.enter 40 args) w := enters_of Tryd.func40 (by kernel_rfl) rfl
  clear hl hcall hmono
  go_enter Tryd.func39, Tryd.ntmps39
  go_wp2_with fail
  go_loopg [9, 10] P.length (fun k s9 s10 wr => ∃ lo hi : Nat, s9 = .int .i64 lo ∧ s10 = .int .i64 hi ∧ lo ≤ hi ∧ hi ≤ P.length ∧ hi - lo ≤ k ∧ ((∀ (j : Nat) x, j < lo → P[j]? = some x → ord x < 0) ∧ (∀ (j : Nat) x, hi ≤ j → P[j]? = some x → 0 ≤ ord x)) ∧ BsS w (.slice p P.length cap) P w.heap.size r wr)
  case atStart => exact ⟨0, P.length, rfl, rfl, Nat.zero_le _, Nat.le_refl _, by omega, ⟨fun j _ h => absurd h (Nat.not_lt_zero _), fun j x h1 h2 => by have := (List.getElem?_eq_some_iff.1 h2).1; omega⟩, HS.out⟩
  case round =>
    clear HS
    obtain ⟨lo, hi, rfl, rfl, hlh, hin, hg, hq, hs⟩ := hrel
    have HQ := Lib.hid hq
    have HS := Lib.hid hs
    clear hq hs
    by_cases hlt : lo < hi
    · have hltI : (lo : Int) < (hi : Int) := by omega
      obtain ⟨m, hm⟩ : ∃ m : Nat, m = (lo + hi) / 2 := ⟨_, rfl⟩
      have hmI : ((lo : Int) + (hi : Int)) / 2 = (m : Int) := by omega
      have hml : m < P.length := by omega
      have hmlI : (m : Int) < (P.length : Int) := by omega
      have HM1 := Lib.hid (show lo ≤ m ∧ m < hi by omega)
      obtain ⟨x, hx⟩ := lt_some hml
      obtain ⟨b, o, rfl, _⟩ := HS.out.1.at hx
      have HY := Lib.hid hx
      clear hx hm
      go_upto_region 5 with fail
      refine wp_region_held_drew (S := BsS w (.slice (some ⟨b, o, none⟩) P.length cap) P w.heap.size r) (by kernel_rfl) (BsS.below (Below.refl _ _).drew HS.out) (fun hS => ?_)
      clear HS
      generalize wr.drew = W at *
      refine seqRead 0 (v := _) rfl (by kernel_rfl) (by kernel_rfl) (by kernel_rfl) (fun _ _ _ h => h) rfl (fun w hSw => by go_simp <;> with_reducible rfl) hS ?_
      try simp only [Act.put, List.setIfInBounds_toArray, List.set_cons_zero, List.set_cons_succ]
      refine seqRead 1 (v := _) rfl (by kernel_rfl) (by kernel_rfl) (by kernel_rfl) (fun _ _ _ h => h) rfl (fun w hSw => by go_simp <;> with_reducible rfl) hS ?_
      try simp only [Act.put, List.setIfInBounds_toArray, List.set_cons_zero, List.set_cons_succ]
      refine seqRead 2 (v := _) rfl (by kernel_rfl) (by kernel_rfl) (by kernel_rfl) (fun _ _ _ h => h) rfl (fun w hSw => by go_simp <;> with_reducible rfl) hS ?_
      try simp only [Act.put, List.setIfInBounds_toArray, List.set_cons_zero, List.set_cons_succ]
      refine seqRead 3 (v := _) rfl (by kernel_rfl) (by kernel_rfl) (by kernel_rfl) (fun _ _ _ h => h) rfl (fun w hSw => by go_simp <;> with_reducible rfl) hS ?_
      try simp only [Act.put, List.setIfInBounds_toArray, List.set_cons_zero, List.set_cons_succ]
      refine seqRead 4 (v := _) rfl (by kernel_rfl) (by kernel_rfl) (by kernel_rfl) (fun _ _ _ h => h) rfl (fun w hSw => by have hc := hSw.1.cellI HY.out; go_simp <;> with_reducible rfl) hS ?_
      try simp only [Act.put, List.setIfInBounds_toArray, List.set_cons_zero, List.set_cons_succ]
      refine seqRead 5 (v := _) rfl (by kernel_rfl) (by kernel_rfl) (by kernel_rfl) (fun _ _ _ h => h) rfl (fun w hSw => execRow0 rfl _ rfl hSw.2.1 Tryd.underlying29 rfl infoR) hS ?_
      try simp only [Act.put, List.setIfInBounds_toArray, List.set_cons_zero, List.set_cons_succ]
      refine seqCall 6 rfl (by kernel_rfl) rfl (fun K hK => ?_)
      go_simp
      refine (HC.out _ hS.2.2 _ _ HY.out).mono ?_
      rintro e w1 ⟨rfl, hw1⟩
      refine hK.out _ _ (BsS.below hw1 hS) (fun hS => ?_)
      clear hK K hw1
      try simp only [Act.put, List.setIfInBounds_toArray, List.set_cons_zero, List.set_cons_succ]
      refine seqRead 7 (v := _) rfl (by kernel_rfl) (by kernel_rfl) (by kernel_rfl) (fun _ _ _ h => h) rfl (fun w hSw => by go_simp <;> with_reducible rfl) hS ?_
      try simp only [Act.put, List.setIfInBounds_toArray, List.set_cons_zero, List.set_cons_succ]
      refine seqDone (by kernel_rfl) ?_
      have HS1 := Lib.hid hS
      clear hS
      by_cases hyx : ord x < 0
      · have HL := Lib.hid (fun (j : Nat) z (hj : j < m + 1) (hz : P[j]? = some z) => HM.out j m z x (by omega) hz HY.out hyx)
        go_wp2_with fail
        go_roundg (hi - (m + 1))
        case measure => have := HM1.out; omega
        case rel =>
          have := HM1.out
          exact ⟨m + 1, hi, by go_num, rfl, by omega, hin, Nat.le_refl _, ⟨fun j z hj hz => HL.out j z hj hz, HQ.out.2⟩, HS1.out⟩
      · have HL := Lib.hid (fun (j : Nat) z (hj : m ≤ j) (hz : P[j]? = some z) => Int.not_lt.1 fun h => hyx (HM.out m j x z hj HY.out hz h))
        go_wp2_with fail
        go_roundg (m - lo)
        case measure => have := HM1.out; omega
        case rel =>
          have := HM1.out
          exact ⟨lo, m, rfl, by go_num, by omega, by omega, Nat.le_refl _, ⟨HQ.out.1, fun j z hj hz => HL.out j z hj hz⟩, HS1.out⟩
    · have hltI : ¬ (lo : Int) < (hi : Int) := by omega
      obtain rfl : hi = lo := by omega
      by_cases hn : hi < P.length
      · have hnI : (hi : Int) < (P.length : Int) := by omega
        obtain ⟨x, hx⟩ := lt_some hn
        obtain ⟨b, o, rfl, _⟩ := HS.out.1.at hx
        have HY := Lib.hid hx
        clear hx
        go_upto_region 8 with fail
        refine wp_region_held_drew (S := BsS w (.slice (some ⟨b, o, none⟩) P.length cap) P w.heap.size r) (by kernel_rfl) (BsS.below (Below.refl _ _).drew HS.out) (fun hS => ?_)
        clear HS
        generalize wr.drew = W at *
        refine seqRead 0 (v := _) rfl (by kernel_rfl) (by kernel_rfl) (by kernel_rfl) (fun _ _ _ h => h) rfl (fun w hSw => by go_simp <;> with_reducible rfl) hS ?_
        try simp only [Act.put, List.setIfInBounds_toArray, List.set_cons_zero, List.set_cons_succ]
        refine seqRead 1 (v := _) rfl (by kernel_rfl) (by kernel_rfl) (by kernel_rfl) (fun _ _ _ h => h) rfl (fun w hSw => by go_simp <;> with_reducible rfl) hS ?_
        try simp only [Act.put, List.setIfInBounds_toArray, List.set_cons_zero, List.set_cons_succ]
        refine seqRead 2 (v := _) rfl (by kernel_rfl) (by kernel_rfl) (by kernel_rfl) (fun _ _ _ h => h) rfl (fun w hSw => by go_simp <;> with_reducible rfl) hS ?_
        try simp only [Act.put, List.setIfInBounds_toArray, List.set_cons_zero, List.set_cons_succ]
        refine seqRead 3 (v := _) rfl (by kernel_rfl) (by kernel_rfl) (by kernel_rfl) (fun _ _ _ h => h) rfl (fun w hSw => by go_simp <;> with_reducible rfl) hS ?_
        try simp only [Act.put, List.setIfInBounds_toArray, List.set_cons_zero, List.set_cons_succ]
        refine seqRead 4 (v := _) rfl (by kernel_rfl) (by kernel_rfl) (by kernel_rfl) (fun _ _ _ h => h) rfl (fun w hSw => by go_simp <;> with_reducible rfl) hS ?_
        try simp only [Act.put, List.setIfInBounds_toArray, List.set_cons_zero, List.set_cons_succ]
        refine seqRead 5 (v := _) rfl (by kernel_rfl) (by kernel_rfl) (by kernel_rfl) (fun _ _ _ h => h) rfl (fun w hSw => by go_simp <;> with_reducible rfl) hS ?_
        try simp only [Act.put, List.setIfInBounds_toArray, List.set_cons_zero, List.set_cons_succ]
        refine seqRead 6 (v := _) rfl (by kernel_rfl) (by kernel_rfl) (by kernel_rfl) (fun _ _ _ h => h) rfl (fun w hSw => by go_simp <;> with_reducible rfl) hS ?_
        try simp only [Act.put, List.setIfInBounds_toArray, List.set_cons_zero, List.set_cons_succ]
        refine seqRead 7 (v := _) rfl (by kernel_rfl) (by kernel_rfl) (by kernel_rfl) (fun _ _ _ h => h) rfl (fun w hSw => by go_simp <;> with_reducible rfl) hS ?_
        try simp only [Act.put, List.setIfInBounds_toArray, List.set_cons_zero, List.set_cons_succ]
        refine seqRead 8 (v := _) rfl (by kernel_rfl) (by kernel_rfl) (by kernel_rfl) (fun _ _ _ h => h) rfl (fun w hSw => by go_simp <;> with_reducible rfl) hS ?_
        try simp only [Act.put, List.setIfInBounds_toArray, List.set_cons_zero, List.set_cons_succ]
        refine seqRead 9 (v := _) rfl (by kernel_rfl) (by kernel_rfl) (by kernel_rfl) (fun _ _ _ h => h) rfl (fun w hSw => by have hc := hSw.1.cellI HY.out; go_simp <;> with_reducible rfl) hS ?_
        try simp only [Act.put, List.setIfInBounds_toArray, List.set_cons_zero, List.set_cons_succ]
        refine seqRead 10 (v := _) rfl (by kernel_rfl) (by kernel_rfl) (by kernel_rfl) (fun _ _ _ h => h) rfl (fun w hSw => execRow0 rfl _ rfl hSw.2.1 Tryd.underlying29 rfl infoR) hS ?_
        try simp only [Act.put, List.setIfInBounds_toArray, List.set_cons_zero, List.set_cons_succ]
        refine seqCall 11 rfl (by kernel_rfl) rfl (fun K hK => ?_)
        go_simp
        refine (HC.out _ hS.2.2 _ _ HY.out).mono ?_
        rintro e w1 ⟨rfl, hw1⟩
        refine hK.out _ _ (BsS.below hw1 hS) (fun hS => ?_)
        clear hK K hw1
        try simp only [Act.put, List.setIfInBounds_toArray, List.set_cons_zero, List.set_cons_succ]
        refine seqRead 12 (v := _) rfl (by kernel_rfl) (by kernel_rfl) (by kernel_rfl) (fun _ _ _ h => h) rfl (fun w hSw => by go_simp <;> with_reducible rfl) hS ?_
        try simp only [Act.put, List.setIfInBounds_toArray, List.set_cons_zero, List.set_cons_succ]
        refine seqRead 13 (v := _) rfl (by kernel_rfl) (by kernel_rfl) (by kernel_rfl) (fun _ _ _ h => h) rfl (fun w hSw => by go_simp <;> with_reducible rfl) hS ?_
        try simp only [Act.put, List.setIfInBounds_toArray, List.set_cons_zero, List.set_cons_succ]
        refine seqRead 14 (v := _) rfl (by kernel_rfl) (by kernel_rfl) (by kernel_rfl) (fun _ _ _ h => h) rfl (fun w hSw => by go_simp <;> with_reducible rfl) hS ?_
        try simp only [Act.put, List.setIfInBounds_toArray, List.set_cons_zero, List.set_cons_succ]
        refine seqRead 15 (v := _) rfl (by kernel_rfl) (by kernel_rfl) (by kernel_rfl) (fun _ _ _ h => h) rfl (fun w hSw => by go_simp <;> with_reducible rfl) hS ?_
        try simp only [Act.put, List.setIfInBounds_toArray, List.set_cons_zero, List.set_cons_succ]
        refine seqDone (by kernel_rfl) ?_
        have HS1 := Lib.hid hS
        clear hS
        go_wp2_with fail
        go_ret2
        refine ⟨hi, _, rfl, hin, HQ.out.1, HQ.out.2, ?_, HS1.out.2.2⟩
        rw [HY.out]
        constructor
        · intro h
          exact ⟨x, rfl, by simpa using h⟩
        · rintro ⟨z, hz, h0⟩
          injection hz with hz
          subst hz
          simpa using h0
      · have hnI : ¬ (hi : Int) < (P.length : Int) := by omega
        go_upto_region 8 with fail
        refine wp_region_held_drew (S := BsS w (.slice p P.length cap) P w.heap.size r) (by kernel_rfl) (BsS.below (Below.refl _ _).drew HS.out) (fun hS => ?_)
        clear HS
        generalize wr.drew = W at *
        refine seqRead 0 (v := _) rfl (by kernel_rfl) (by kernel_rfl) (by kernel_rfl) (fun _ _ _ h => h) rfl (fun w hSw => by go_simp <;> with_reducible rfl) hS ?_
        try simp only [Act.put, List.setIfInBounds_toArray, List.set_cons_zero, List.set_cons_succ]
        refine seqRead 1 (v := _) rfl (by kernel_rfl) (by kernel_rfl) (by kernel_rfl) (fun _ _ _ h => h) rfl (fun w hSw => by go_simp <;> with_reducible rfl) hS ?_
        try simp only [Act.put, List.setIfInBounds_toArray, List.set_cons_zero, List.set_cons_succ]
        refine seqRead 2 (v := _) rfl (by kernel_rfl) (by kernel_rfl) (by kernel_rfl) (fun _ _ _ h => h) rfl (fun w hSw => by go_simp <;> with_reducible rfl) hS ?_
        try simp only [Act.put, List.setIfInBounds_toArray, List.set_cons_zero, List.set_cons_succ]
        refine seqRead 3 (v := _) rfl (by kernel_rfl) (by kernel_rfl) (by kernel_rfl) (fun _ _ _ h => h) rfl (fun w hSw => by go_simp <;> with_reducible rfl) hS ?_
        try simp only [Act.put, List.setIfInBounds_toArray, List.set_cons_zero, List.set_cons_succ]
        refine seqRead 4 (v := _) rfl (by kernel_rfl) (by kernel_rfl) (by kernel_rfl) (fun _ _ _ h => h) rfl (fun w hSw => by go_simp <;> with_reducible rfl) hS ?_
        try simp only [Act.put, List.setIfInBounds_toArray, List.set_cons_zero, List.set_cons_succ]
        refine seqSkip 5 rfl (by kernel_rfl) (by kernel_rfl) (by kernel_rfl) (fun _ _ _ h => h) rfl hS ?_
        try simp only [Act.put, List.setIfInBounds_toArray, List.set_cons_zero, List.set_cons_succ]
        refine seqSkip 6 rfl (by kernel_rfl) (by kernel_rfl) (by kernel_rfl) (fun _ _ _ h => h) rfl hS ?_
        try simp only [Act.put, List.setIfInBounds_toArray, List.set_cons_zero, List.set_cons_succ]
        refine seqSkip 7 rfl (by kernel_rfl) (by kernel_rfl) (by kernel_rfl) (fun _ _ _ h => h) rfl hS ?_
        try simp only [Act.put, List.setIfInBounds_toArray, List.set_cons_zero, List.set_cons_succ]
        refine seqSkip 8 rfl (by kernel_rfl) (by kernel_rfl) (by kernel_rfl) (fun _ _ _ h => h) rfl hS ?_
        try simp only [Act.put, List.setIfInBounds_toArray, List.set_cons_zero, List.set_cons_succ]
        refine seqSkip 9 rfl (by kernel_rfl) (by kernel_rfl) (by kernel_rfl) (fun _ _ _ h => h) rfl hS ?_
        try simp only [Act.put, List.setIfInBounds_toArray, List.set_cons_zero, List.set_cons_succ]
        refine seqSkip 10 rfl (by kernel_rfl) (by kernel_rfl) (by kernel_rfl) (fun _ _ _ h => h) rfl hS ?_
        try simp only [Act.put, List.setIfInBounds_toArray, List.set_cons_zero, List.set_cons_succ]
        refine seqSkip 11 rfl (by kernel_rfl) (by kernel_rfl) (by kernel_rfl) (fun _ _ _ h => h) rfl hS ?_
        try simp only [Act.put, List.setIfInBounds_toArray, List.set_cons_zero, List.set_cons_succ]
        refine seqSkip 12 rfl (by kernel_rfl) (by kernel_rfl) (by kernel_rfl) (fun _ _ _ h => h) rfl hS ?_
        try simp only [Act.put, List.setIfInBounds_toArray, List.set_cons_zero, List.set_cons_succ]
        refine seqRead 13 (v := _) rfl (by kernel_rfl) (by kernel_rfl) (by kernel_rfl) (fun _ _ _ h => h) rfl (fun w hSw => by go_simp <;> with_reducible rfl) hS ?_
        try simp only [Act.put, List.setIfInBounds_toArray, List.set_cons_zero, List.set_cons_succ]
        refine seqRead 14 (v := _) rfl (by kernel_rfl) (by kernel_rfl) (by kernel_rfl) (fun _ _ _ h => h) rfl (fun w hSw => by go_simp <;> with_reducible rfl) hS ?_
        try simp only [Act.put, List.setIfInBounds_toArray, List.set_cons_zero, List.set_cons_succ]
        refine seqRead 15 (v := _) rfl (by kernel_rfl) (by kernel_rfl) (by kernel_rfl) (fun _ _ _ h => h) rfl (fun w hSw => by go_simp <;> with_reducible rfl) hS ?_
        try simp only [Act.put, List.setIfInBounds_toArray, List.set_cons_zero, List.set_cons_succ]
        refine seqDone (by kernel_rfl) ?_
        have HS1 := Lib.hid hS
        clear hS
        go_wp2_with fail
        go_ret2
        refine ⟨hi, false, rfl, hin, HQ.out.1, HQ.out.2, ?_, HS1.out.2.2⟩
        rw [List.getElem?_eq_none (by omega)]
        simp
end Go.Proofs.YthalpnmejompdaaDoor
