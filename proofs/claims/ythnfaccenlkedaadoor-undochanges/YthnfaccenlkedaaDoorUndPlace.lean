/-
  The walks of sort.Search, and of place of package undo.
-/
import Derived.Test.YthnfaccenlkedaaDoorUndMath
import Derived.Test.YthnfaccenlkedaaDoorPackMod
import Derived.Test.YthnfaccenlkedaaDoorPackRule
import Derived.Test.YthnfaccenlkedaaDoorPackSort
namespace Go.Proofs.YthnfaccenlkedaaDoor
open Go.RowKit

/-- what Search gives: the first place from which the condition holds -/
def SeaRet (n : Nat) (q : Nat → Bool) (w : World) (e : Ending) (w' : World) : Prop :=
  ∃ c : Nat, e = .returned (.int .i64 (c : Int)) ∧ c ≤ n ∧ (∀ j, j < c → q j = false) ∧ (∀ j, c ≤ j → j < n → q j = true) ∧ Below w.heap.size w w'
set_option maxRecDepth 100000 in
set_option maxHeartbeats 2000000 in
theorem search_any (n : Nat) (hn : n ≤ 1000000) (g : Nat) (cb : Array Value) (q : Nat → Bool) (eg : ∀ args w, (callFunc g args).run Tryd.prog w = .ok (.enter g args) w) (w : World)
    (hcall : ∀ W, Below w.heap.size w W → ∀ j : Nat, j < n → Calls Tryd.prog g (#[.int .i64 (j : Int)] ++ cb) W fun e w' => e = .returned (.bool (q j)) ∧ Below W.heap.size W w')
    (hmono : ∀ i j, i ≤ j → j < n → q i = true → q j = true) :
    Calls Tryd.prog 61 #[.int .i64 (n : Int), .func (.func g) #[] cb] w (SeaRet n q w) := by
  have HC := Lib.hid hcall
  have HM := Lib.hid hmono
  clear hcall hmono
  go_enter Tryd.func61, Tryd.ntmps61
  go_wp2_with fail
  go_loopg [5, 6] n (fun k s5 s6 wr => ∃ lo hi : Nat, s5 = .int .i64 lo ∧ s6 = .int .i64 hi ∧ lo ≤ hi ∧ hi ≤ n ∧ hi - lo ≤ k ∧ ((∀ j, j < lo → q j = false) ∧ (∀ j, hi ≤ j → j < n → q j = true)) ∧ Below w.heap.size w wr)
  case atStart => exact ⟨0, n, rfl, rfl, Nat.zero_le _, Nat.le_refl _, by omega, ⟨fun j h => absurd h (Nat.not_lt_zero _), fun j h1 h2 => by omega⟩, Below.refl _ _⟩
  case round =>
    obtain ⟨lo, hi, rfl, rfl, hlh, hin, hg, hq, hb⟩ := hrel
    have HQ := Lib.hid hq
    have HB := Lib.hid hb
    clear hq hb
    by_cases hlt : lo < hi
    · have hltI : (lo : Int) < (hi : Int) := by omega
      obtain ⟨m, hm⟩ : ∃ m : Nat, m = (lo + hi) / 2 := ⟨_, rfl⟩
      have hmI : ((lo : Int) + (hi : Int)) / 2 = (m : Int) := by omega
      have HM1 := Lib.hid (show lo ≤ m ∧ m < hi by omega)
      have hmn : m < n := by omega
      have HCm := Lib.hid (show Calls Tryd.prog g (#[.int .i64 (m : Int)] ++ cb) wr _ from HC.out wr HB.out m hmn)
      clear hm
      cases hqm : q m
      · rw [hqm] at HCm
        have HL := Lib.hid (fun j (hj : j < m + 1) => show q j = false by
          cases hjq : q j
          · rfl
          · rw [HM.out j m (by omega) hmn hjq] at hqm; cases hqm)
        clear hqm
        go_wp2_with (go_at_fn g; refine HCm.out.mono ?_; rintro e w1 ⟨rfl, hw1⟩)
        have HB1 := Lib.hid (HB.out.trans (hw1.mono HB.out.size))
        clear hw1 HCm
        go_roundg (hi - (m + 1))
        case measure => have := HM1.out; omega
        case rel =>
          have := HM1.out
          exact ⟨m + 1, hi, by go_num, rfl, by omega, hin, Nat.le_refl _, ⟨HL.out, HQ.out.2⟩, HB1.out⟩
      · rw [hqm] at HCm
        have HL := Lib.hid (fun j (hj : m ≤ j) (hjn : j < n) => HM.out m j hj hjn hqm)
        clear hqm
        go_wp2_with (go_at_fn g; refine HCm.out.mono ?_; rintro e w1 ⟨rfl, hw1⟩)
        have HB1 := Lib.hid (HB.out.trans (hw1.mono HB.out.size))
        clear hw1 HCm
        go_roundg (m - lo)
        case measure => have := HM1.out; omega
        case rel =>
          have := HM1.out
          exact ⟨lo, m, rfl, by first | rfl | go_num, by omega, by omega, Nat.le_refl _, ⟨HQ.out.1, HL.out⟩, HB1.out⟩
    · have hltI : ¬ (lo : Int) < (hi : Int) := by omega
      obtain rfl : hi = lo := by omega
      go_wp2_with fail
      go_ret
      exact ⟨hi, rfl, hin, HQ.out.1, HQ.out.2, HB.out⟩
set_option maxRecDepth 100000 in
set_option maxHeartbeats 1000000 in
theorem place1_any (B0 : Nat) (v : Value) (l : List Rm) (wb i : Nat) (x r : Rm) (hi : l[i]? = some x) (w : World) (hS : SbS B0 v l wb r w) :
    Calls Tryd.prog 62 #[.int .i64 (i : Int), .pointer (some ⟨B0, 0, none⟩), .pointer (some ⟨wb, 0, none⟩)] w fun e w' => e = .returned (.bool (!decide (rOrd x.u r.u < 0))) ∧ Below w.heap.size w w' := by
  obtain ⟨p, cap, rfl⟩ := hS.2.1.form
  obtain ⟨b, o, rfl, _⟩ := hS.2.1.at hi
  have hlt : i < l.length := (List.getElem?_eq_some_iff.1 hi).1
  have hltI : (i : Int) < (l.length : Int) := by omega
  have HI := Lib.hid hi
  have HS := Lib.hid hS
  clear hi hS
  go_enter Tryd.func62, Tryd.ntmps62
  go_upto_region 1 with fail
  refine wp_region_held_drew (S := SbS B0 (.slice (some ⟨b, o, none⟩) l.length cap) l wb r) (by kernel_rfl) (SbS.below (Below.refl _ _).drew HS.out) (fun hS => ?_)
  have HB1 := Lib.hid (Below.refl w.heap.size w).drew
  clear HS
  generalize w.drew = W at *
  refine seqRead 0 (v := _) rfl (by kernel_rfl) (by kernel_rfl) (by kernel_rfl) (fun _ _ _ h => h) rfl (fun w hSw => by have hc := hSw.cell; go_simp <;> with_reducible rfl) hS ?_
  try simp only [Act.put, List.setIfInBounds_toArray, List.set_cons_zero, List.set_cons_succ]
  refine seqRead 1 (v := _) rfl (by kernel_rfl) (by kernel_rfl) (by kernel_rfl) (fun _ _ _ h => h) rfl (fun w hSw => by go_simp <;> with_reducible rfl) hS ?_
  try simp only [Act.put, List.setIfInBounds_toArray, List.set_cons_zero, List.set_cons_succ]
  refine seqRead 2 (v := _) rfl (by kernel_rfl) (by kernel_rfl) (by kernel_rfl) (fun _ _ _ h => h) rfl (fun w hSw => by go_simp <;> with_reducible rfl) hS ?_
  try simp only [Act.put, List.setIfInBounds_toArray, List.set_cons_zero, List.set_cons_succ]
  refine seqRead 3 (v := _) rfl (by kernel_rfl) (by kernel_rfl) (by kernel_rfl) (fun _ _ _ h => h) rfl (fun w hSw => execRow rfl b (o + i * 32) rfl (rcl x) _ (hSw.2.1.at' HI.out) Tryd.underlying51 rfl infoR) hS ?_
  try simp only [Act.put, List.setIfInBounds_toArray, List.set_cons_zero, List.set_cons_succ]
  refine seqRead 4 (v := _) rfl (by kernel_rfl) (by kernel_rfl) (by kernel_rfl) (fun _ _ _ h => h) rfl (fun w hSw => execRow0 rfl _ rfl hSw.2.2 Tryd.underlying51 rfl infoR) hS ?_
  try simp only [Act.put, List.setIfInBounds_toArray, List.set_cons_zero, List.set_cons_succ]
  refine seqCall 5 rfl (by kernel_rfl) rfl (fun K hK => ?_)
  go_simp
  refine (before_any x r _).mono ?_
  rintro e w1 ⟨rfl, hw1⟩
  refine hK.out _ _ (SbS.below hw1 hS) (fun hS => ?_)
  clear hK K
  try simp only [Act.put, List.setIfInBounds_toArray, List.set_cons_zero, List.set_cons_succ]
  refine seqRead 6 (v := _) rfl (by kernel_rfl) (by kernel_rfl) (by kernel_rfl) (fun _ _ _ h => h) rfl (fun w hSw => by go_simp <;> with_reducible rfl) hS ?_
  try simp only [Act.put, List.setIfInBounds_toArray, List.set_cons_zero, List.set_cons_succ]
  refine seqRead 7 (v := _) rfl (by kernel_rfl) (by kernel_rfl) (by kernel_rfl) (fun _ _ _ h => h) rfl (fun w hSw => by go_simp <;> with_reducible rfl) hS ?_
  try simp only [Act.put, List.setIfInBounds_toArray, List.set_cons_zero, List.set_cons_succ]
  refine seqDone (by kernel_rfl) ?_
  have HB2 := Lib.hid (HB1.out.trans (hw1.mono HB1.out.size))
  clear hS hw1
  go_wp2_with fail
  go_ret
  exact ⟨rfl, HB2.out⟩
/-- has a rule of a list the key of a rule? -/
def plB (l : List Rm) (r : Rm) : Bool := l.any fun x => keyB x.u r.u
/-- what place gives -/
def PlRet (l : List Rm) (r : Rm) (w : World) (e : Ending) (w' : World) : Prop := ∃ c : Nat, e = .returned (.tuple #[.int .i64 (c : Int), .bool (plB l r)]) ∧ (plB l r = true → ∃ x, l[c]? = some x ∧ keyB x.u r.u = true) ∧ c ≤ l.length ∧ Below w.heap.size w w'
/-- is a rule of the list not before a rule? -/
def nbB (l : List Rm) (r : Rm) (j : Nat) : Bool := !decide (rOrd (nthU l j) r.u < 0)
section
variable {l : List Rm} {r x : Rm} {c i j : Nat}
theorem srt_at (hs : Srt rOrd (l.map (·.u))) (hij : i < j) {y : Rm} (hx : l[i]? = some x) (hy : l[j]? = some y) : rOrd x.u y.u < 0 := by
  obtain ⟨h1, e1⟩ := List.getElem?_eq_some_iff.1 hx
  obtain ⟨h2, e2⟩ := List.getElem?_eq_some_iff.1 hy
  have := List.pairwise_iff_getElem.1 hs i j (by simpa using h1) (by simpa using h2) hij
  simpa [e1, e2] using this
theorem nb_at (hx : l[i]? = some x) : nbB l r i = !decide (rOrd x.u r.u < 0) := by unfold nbB; rw [nthU_at hx]
theorem nb_mono (hs : Srt rOrd (l.map (·.u))) (i j : Nat) (hij : i ≤ j) (hj : j < l.length) (h : nbB l r i = true) : nbB l r j = true := by
  rcases Nat.lt_or_eq_of_le hij with hlt | rfl
  · obtain ⟨x, hx⟩ := lt_some (show i < l.length by omega)
    obtain ⟨y, hy⟩ := lt_some hj
    have := srt_at hs hlt hx hy
    rw [nb_at hx] at h
    rw [nb_at hy]
    simp only [Bool.not_eq_true', decide_eq_false_iff_not] at h ⊢
    exact fun hq => h (rOrd_ordd.lt_trans this hq)
  · exact h
/-- with the first rule that is not before a rule all is said -/
theorem pl_at (hs : Srt rOrd (l.map (·.u))) (h1 : ∀ j, j < c → nbB l r j = false) (hx : l[c]? = some x) (h2 : nbB l r c = true) : plB l r = keyB x.u r.u := by
  unfold plB
  cases hk : keyB x.u r.u
  · rw [List.any_eq_false]
    intro y hy
    rw [Bool.not_eq_true]
    obtain ⟨j, hj, rfl⟩ := List.mem_iff_getElem.1 hy
    have hyj := List.getElem?_eq_getElem hj
    rcases Nat.lt_trichotomy j c with hlt | rfl | hgt
    · have := h1 j hlt
      rw [nb_at hyj] at this
      rw [key_ord]
      simp at this ⊢
      omega
    · rw [hyj] at hx
      injection hx with hx
      rw [hx]; exact hk
    · have := srt_at hs hgt hx hyj
      rw [nb_at hx] at h2
      simp only [Bool.not_eq_true', decide_eq_false_iff_not] at h2
      cases hq : keyB l[j].u r.u
      · rfl
      · exact absurd (rOrd_ordd.lt_of_lt_le this (by rw [(key_iff _ _).1 hq]; decide)) h2
  · exact List.any_eq_true.2 ⟨x, List.mem_of_getElem? hx, hk⟩
theorem pl_none (h1 : ∀ j, j < l.length → nbB l r j = false) : plB l r = false := by
  unfold plB
  rw [List.any_eq_false]
  intro y hy
  rw [Bool.not_eq_true]
  obtain ⟨j, hj, rfl⟩ := List.mem_iff_getElem.1 hy
  have := h1 j hj
  rw [nb_at (List.getElem?_eq_getElem hj)] at this
  rw [key_ord]
  simp at this ⊢
  omega
end
theorem enPl1 : Enters Tryd.prog 62 := enters_of Tryd.func62 (by kernel_rfl) rfl
set_option maxRecDepth 100000 in
set_option maxHeartbeats 2000000 in
theorem place_any (v : Value) (l : List Rm) (hlen : l.length ≤ 1000000) (hs : Srt rOrd (l.map (·.u))) (r : Rm) (w : World) (hl : KLies KR v l w) : Calls Tryd.prog 37 #[v, .agg (rca r)] w (PlRet l r w) := by
  obtain ⟨p, cap, rfl⟩ := hl.form
  have HS0 := Lib.hid (show SbS w.heap.size (.slice p l.length cap) l (w.heap.size + 1) r ((w.alloc (.cells #[.slice p l.length cap] 22)).alloc (.cells (rca r) 51)) from
    ⟨(Blk.new w #[.slice p l.length cap] 22).old _, (hl.below okR (below1 _ _)).below okR (below1 _ _), Blk.new2 _ _ _ _⟩)
  have HB0 := Lib.hid (show Below w.heap.size w ((w.alloc (.cells #[.slice p l.length cap] 22)).alloc (.cells (rca r) 51)) from (below1 w _).trans ((below1 _ _).mono (below1 w _).size))
  have hc0 := HS0.out.cell
  have HSrt := Lib.hid hs
  clear hl hs
  go_enter Tryd.func37, Tryd.ntmps37
  go_upto_region 1 with fail
  generalize (w.alloc (.cells #[.slice p l.length cap] 22)).alloc (.cells (rca r) 51) = W at *
  have HF := Lib.hid (search_any l.length hlen 62 #[.pointer (some ⟨w.heap.size, 0, none⟩), .pointer (some ⟨w.heap.size + 1, 0, none⟩)] (nbB l r) enPl1 W (fun W' hb j hj => by
    obtain ⟨x, hx⟩ := lt_some hj
    rw [nb_at hx]
    exact place1_any w.heap.size _ l (w.heap.size + 1) j x r hx W' (SbS.below hb HS0.out)) (nb_mono HSrt.out))
  go_upto_region 2 with (go_at_call 61; refine HF.out.mono ?_; rintro e w2 ⟨c, rfl, hcn, h1, h2, hw2⟩)
  have HB := Lib.hid (HB0.out.trans (hw2.mono HB0.out.size))
  have HS := Lib.hid (SbS.below hw2 HS0.out)
  have H1 := Lib.hid h1
  have H2 := Lib.hid h2
  clear hw2 HF HS0 HB0 hc0 h1 h2
  by_cases hlt : c < l.length
  · have hltI : (c : Int) < (l.length : Int) := by omega
    obtain ⟨x, hx⟩ := lt_some hlt
    obtain ⟨b, o, rfl, _⟩ := HS.out.2.1.at hx
    have HX := Lib.hid hx
    have HP := Lib.hid (pl_at HSrt.out H1.out hx (H2.out c (Nat.le_refl _) hlt))
    clear hx
    refine wp_region_held_drew (S := SbS w.heap.size (.slice (some ⟨b, o, none⟩) l.length cap) l (w.heap.size + 1) r) (by kernel_rfl) (SbS.below (Below.refl _ _).drew HS.out) (fun hS => ?_)
    replace HB := Lib.hid HB.out.drew
    clear HS
    generalize w2.drew = W2 at *
    refine seqRead 0 (v := _) rfl (by kernel_rfl) (by kernel_rfl) (by kernel_rfl) (fun _ _ _ h => h) rfl (fun w hSw => by go_simp <;> with_reducible rfl) hS ?_
    try simp only [Act.put, List.setIfInBounds_toArray, List.set_cons_zero, List.set_cons_succ]
    refine seqRead 1 (v := _) rfl (by kernel_rfl) (by kernel_rfl) (by kernel_rfl) (fun _ _ _ h => h) rfl (fun w hSw => by go_simp <;> with_reducible rfl) hS ?_
    try simp only [Act.put, List.setIfInBounds_toArray, List.set_cons_zero, List.set_cons_succ]
    refine seqRead 2 (v := _) rfl (by kernel_rfl) (by kernel_rfl) (by kernel_rfl) (fun _ _ _ h => h) rfl (fun w hSw => by have hc := hSw.cell; go_simp <;> with_reducible rfl) hS ?_
    try simp only [Act.put, List.setIfInBounds_toArray, List.set_cons_zero, List.set_cons_succ]
    refine seqRead 3 (v := _) rfl (by kernel_rfl) (by kernel_rfl) (by kernel_rfl) (fun _ _ _ h => h) rfl (fun w hSw => by go_simp <;> with_reducible rfl) hS ?_
    try simp only [Act.put, List.setIfInBounds_toArray, List.set_cons_zero, List.set_cons_succ]
    refine seqRead 4 (v := _) rfl (by kernel_rfl) (by kernel_rfl) (by kernel_rfl) (fun _ _ _ h => h) rfl (fun w hSw => by go_simp <;> with_reducible rfl) hS ?_
    try simp only [Act.put, List.setIfInBounds_toArray, List.set_cons_zero, List.set_cons_succ]
    refine seqRead 5 (v := _) rfl (by kernel_rfl) (by kernel_rfl) (by kernel_rfl) (fun _ _ _ h => h) rfl (fun w hSw => by go_simp <;> with_reducible rfl) hS ?_
    try simp only [Act.put, List.setIfInBounds_toArray, List.set_cons_zero, List.set_cons_succ]
    refine seqRead 6 (v := _) rfl (by kernel_rfl) (by kernel_rfl) (by kernel_rfl) (fun _ _ _ h => h) rfl (fun w hSw => by have hc := hSw.cell; go_simp <;> with_reducible rfl) hS ?_
    try simp only [Act.put, List.setIfInBounds_toArray, List.set_cons_zero, List.set_cons_succ]
    refine seqRead 7 (v := _) rfl (by kernel_rfl) (by kernel_rfl) (by kernel_rfl) (fun _ _ _ h => h) rfl (fun w hSw => by go_simp <;> with_reducible rfl) hS ?_
    try simp only [Act.put, List.setIfInBounds_toArray, List.set_cons_zero, List.set_cons_succ]
    refine seqRead 8 (v := _) rfl (by kernel_rfl) (by kernel_rfl) (by kernel_rfl) (fun _ _ _ h => h) rfl (fun w hSw => by go_simp <;> with_reducible rfl) hS ?_
    try simp only [Act.put, List.setIfInBounds_toArray, List.set_cons_zero, List.set_cons_succ]
    refine seqRead 9 (v := _) rfl (by kernel_rfl) (by kernel_rfl) (by kernel_rfl) (fun _ _ _ h => h) rfl (fun w hSw => execRow rfl b (o + c * 32) rfl (rcl x) _ (hSw.2.1.at' HX.out) Tryd.underlying51 rfl infoR) hS ?_
    try simp only [Act.put, List.setIfInBounds_toArray, List.set_cons_zero, List.set_cons_succ]
    refine seqRead 10 (v := _) rfl (by kernel_rfl) (by kernel_rfl) (by kernel_rfl) (fun _ _ _ h => h) rfl (fun w hSw => execRow0 rfl _ rfl hSw.2.2 Tryd.underlying51 rfl infoR) hS ?_
    try simp only [Act.put, List.setIfInBounds_toArray, List.set_cons_zero, List.set_cons_succ]
    refine seqCall 11 rfl (by kernel_rfl) rfl (fun K hK => ?_)
    go_simp
    refine (key_any x r _).mono ?_
    rintro e w3 ⟨rfl, hw3⟩
    have HB3 := Lib.hid (HB.out.trans (hw3.mono HB.out.size))
    refine hK.out _ _ (SbS.below hw3 hS) (fun hS => ?_)
    clear hK K hw3
    try simp only [Act.put, List.setIfInBounds_toArray, List.set_cons_zero, List.set_cons_succ]
    refine seqRead 12 (v := _) rfl (by kernel_rfl) (by kernel_rfl) (by kernel_rfl) (fun _ _ _ h => h) rfl (fun w hSw => by go_simp <;> with_reducible rfl) hS ?_
    try simp only [Act.put, List.setIfInBounds_toArray, List.set_cons_zero, List.set_cons_succ]
    refine seqRead 13 (v := _) rfl (by kernel_rfl) (by kernel_rfl) (by kernel_rfl) (fun _ _ _ h => h) rfl (fun w hSw => by go_simp <;> with_reducible rfl) hS ?_
    try simp only [Act.put, List.setIfInBounds_toArray, List.set_cons_zero, List.set_cons_succ]
    refine seqRead 14 (v := _) rfl (by kernel_rfl) (by kernel_rfl) (by kernel_rfl) (fun _ _ _ h => h) rfl (fun w hSw => by go_simp <;> with_reducible rfl) hS ?_
    try simp only [Act.put, List.setIfInBounds_toArray, List.set_cons_zero, List.set_cons_succ]
    refine seqDone (by kernel_rfl) ?_
    clear hS
    go_wp2_with fail
    go_ret2
    refine ⟨c, by rw [HP.out]; rfl, fun h => ⟨x, HX.out, by rw [← HP.out]; exact h⟩, hcn, HB3.out⟩
  · have hltI : ¬ (c : Int) < (l.length : Int) := by omega
    obtain rfl : c = l.length := by omega
    have HP := Lib.hid (pl_none H1.out)
    refine wp_region_held_drew (S := SbS w.heap.size (.slice p l.length cap) l (w.heap.size + 1) r) (by kernel_rfl) (SbS.below (Below.refl _ _).drew HS.out) (fun hS => ?_)
    replace HB := Lib.hid HB.out.drew
    clear HS
    generalize w2.drew = W2 at *
    refine seqRead 0 (v := _) rfl (by kernel_rfl) (by kernel_rfl) (by kernel_rfl) (fun _ _ _ h => h) rfl (fun w hSw => by go_simp <;> with_reducible rfl) hS ?_
    try simp only [Act.put, List.setIfInBounds_toArray, List.set_cons_zero, List.set_cons_succ]
    refine seqRead 1 (v := _) rfl (by kernel_rfl) (by kernel_rfl) (by kernel_rfl) (fun _ _ _ h => h) rfl (fun w hSw => by go_simp <;> with_reducible rfl) hS ?_
    try simp only [Act.put, List.setIfInBounds_toArray, List.set_cons_zero, List.set_cons_succ]
    refine seqRead 2 (v := _) rfl (by kernel_rfl) (by kernel_rfl) (by kernel_rfl) (fun _ _ _ h => h) rfl (fun w hSw => by have hc := hSw.cell; go_simp <;> with_reducible rfl) hS ?_
    try simp only [Act.put, List.setIfInBounds_toArray, List.set_cons_zero, List.set_cons_succ]
    refine seqRead 3 (v := _) rfl (by kernel_rfl) (by kernel_rfl) (by kernel_rfl) (fun _ _ _ h => h) rfl (fun w hSw => by go_simp <;> with_reducible rfl) hS ?_
    try simp only [Act.put, List.setIfInBounds_toArray, List.set_cons_zero, List.set_cons_succ]
    refine seqRead 4 (v := _) rfl (by kernel_rfl) (by kernel_rfl) (by kernel_rfl) (fun _ _ _ h => h) rfl (fun w hSw => by go_simp <;> with_reducible rfl) hS ?_
    try simp only [Act.put, List.setIfInBounds_toArray, List.set_cons_zero, List.set_cons_succ]
    refine seqRead 5 (v := _) rfl (by kernel_rfl) (by kernel_rfl) (by kernel_rfl) (fun _ _ _ h => h) rfl (fun w hSw => by go_simp <;> with_reducible rfl) hS ?_
    try simp only [Act.put, List.setIfInBounds_toArray, List.set_cons_zero, List.set_cons_succ]
    refine seqSkip 6 rfl (by kernel_rfl) (by kernel_rfl) (by kernel_rfl) (fun _ _ _ h => h) rfl hS ?_
    try simp only [Act.put, List.setIfInBounds_toArray, List.set_cons_zero, List.set_cons_succ]
    refine seqSkip 7 rfl (by kernel_rfl) (by kernel_rfl) (by kernel_rfl) (fun _ _ _ h => h) rfl hS ?_
    try simp only [Act.put, List.setIfInBounds_toArray, List.set_cons_zero, List.set_cons_succ]
    refine seqSkip 8 rfl (by kernel_rfl) (by kernel_rfl) (by kernel_rfl) (fun _ _ _ h => h) rfl hS ?_
    try simp only [Act.put, List.setIfInBounds_toArray, List.set_cons_zero, List.set_cons_succ]
    refine seqSkip 9 rfl (by kernel_rfl) (by kernel_rfl) (by kernel_rfl) (fun _ _ _ h => h) rfl hS ?_
    try simp only [Act.put, List.setIfInBounds_toArray, List.set_cons_zero, List.set_cons_succ]
    refine seqSkip 10 rfl (by kernel_rfl) (by kernel_rfl) (by kernel_rfl) (fun _ _ _ h => h) rfl hS ?_
    try simp only [Act.put, List.setIfInBounds_toArray, List.set_cons_zero, List.set_cons_succ]
    refine seqSkip 11 rfl (by kernel_rfl) (by kernel_rfl) (by kernel_rfl) (fun _ _ _ h => h) rfl hS ?_
    try simp only [Act.put, List.setIfInBounds_toArray, List.set_cons_zero, List.set_cons_succ]
    refine seqRead 12 (v := _) rfl (by kernel_rfl) (by kernel_rfl) (by kernel_rfl) (fun _ _ _ h => h) rfl (fun w hSw => by go_simp <;> with_reducible rfl) hS ?_
    try simp only [Act.put, List.setIfInBounds_toArray, List.set_cons_zero, List.set_cons_succ]
    refine seqRead 13 (v := _) rfl (by kernel_rfl) (by kernel_rfl) (by kernel_rfl) (fun _ _ _ h => h) rfl (fun w hSw => by go_simp <;> with_reducible rfl) hS ?_
    try simp only [Act.put, List.setIfInBounds_toArray, List.set_cons_zero, List.set_cons_succ]
    refine seqRead 14 (v := _) rfl (by kernel_rfl) (by kernel_rfl) (by kernel_rfl) (fun _ _ _ h => h) rfl (fun w hSw => by go_simp <;> with_reducible rfl) hS ?_
    try simp only [Act.put, List.setIfInBounds_toArray, List.set_cons_zero, List.set_cons_succ]
    refine seqDone (by kernel_rfl) ?_
    clear hS
    go_wp2_with fail
    go_ret2
    refine ⟨l.length, by rw [HP.out]; rfl, fun h => ?_, Nat.le_refl _, HB.out⟩
    rw [HP.out] at h
    cases h
end Go.Proofs.YthnfaccenlkedaaDoor
