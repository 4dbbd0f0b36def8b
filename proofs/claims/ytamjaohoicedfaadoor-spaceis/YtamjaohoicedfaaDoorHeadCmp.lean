/-
  The walks of Compare (the program's), Order (the reference's) and sign.
-/
import Derived.Test.YtamjaohoicedfaaDoorHeadSet
namespace Go.Proofs.YtamjaohoicedfaaDoor
open Go.RowKit

/-- two headers lie in two blocks, nothing old has changed -/
def Two (w : World) (a b : Nat → Int) (W : World) : Prop := W.heap[w.heap.size]? = some (.cells (hc a) 25 (0, 0)) ∧ W.heap[w.heap.size + 1]? = some (.cells (hc b) 25 (0, 0)) ∧ Below w.heap.size w W
theorem Two.start (w : World) (a b : Nat → Int) : Two w a b ((w.alloc (.cells (hc a) 25)).alloc (.cells (hc b) 25)) := ⟨heap_alloc2_old _ _ _, heap_alloc2_new _ _ _, below2 _ _ _⟩
theorem Two.drewN {w : World} {a b : Nat → Int} {W : World} (h : Two w a b W) : ∀ n, Two w a b (W.drewN n)
  | 0 => h
  | n + 1 => ⟨h.1, h.2.1, (h.drewN n).2.2.drew⟩

set_option maxHeartbeats 400000 in
theorem cmp_lt (a b : Nat → Int) (k : Nat) (hk : k < 12) (heq : ∀ j, j < k → a j = b j) (hd : a k < b k) (w : World) :
    Calls Tryd.prog 52 #[.agg (hc a), .agg (hc b)] w fun e w' => e = .returned (.int .i64 (-1)) ∧ Below w.heap.size w w' := by
  have HQ := Lib.hid heq
  have HL := Lib.hid hd
  clear heq hd
  go_enter Tryd.func52, Tryd.ntmps52
  go_wp2
  go_loopw [6] (fun i wr => ∃ r : Nat, r ≤ k ∧ i = .int .i64 r ∧ Two w a b wr) (fun i _ => (12 - intOf i).toNat)
  case atStart => exact ⟨0, by omega, rfl, Two.start w a b⟩
  case round =>
    obtain ⟨r, hr, rfl, hrow⟩ := hrel
    have HR := Lib.hid hrow
    clear hrow
    by_cases hrk : r < k
    · have h12 : r < 12 := by omega
      have ca := cell_row HR.out.1 h12
      have cb := cell_row HR.out.2.1 h12
      have e := HQ.out r hrk
      have g1 : ¬ a r < b r := by omega
      have g2 : ¬ b r < a r := by omega
      clear e
      go_wp2
      go_quiet (fail)
      go_wp2
      go_quiet (fail)
      go_wp2
      go_roundw
      case rel => exact ⟨r + 1, by omega, by go_num, HR.out.drewN _⟩
      case measure => simp [intOf]; omega
    · obtain rfl : r = k := by omega
      have ca := cell_row HR.out.1 hk
      have cb := cell_row HR.out.2.1 hk
      have g1 := HL.out
      go_wp2
      go_quiet (fail)
      go_wp2
      go_ret
      exact ⟨rfl, (HR.out.drewN _).2.2⟩
set_option maxHeartbeats 400000 in
theorem cmp_gt (a b : Nat → Int) (k : Nat) (hk : k < 12) (heq : ∀ j, j < k → a j = b j) (hd : b k < a k) (w : World) :
    Calls Tryd.prog 52 #[.agg (hc a), .agg (hc b)] w fun e w' => e = .returned (.int .i64 1) ∧ Below w.heap.size w w' := by
  have HQ := Lib.hid heq
  have HL := Lib.hid hd
  clear heq hd
  go_enter Tryd.func52, Tryd.ntmps52
  go_wp2
  go_loopw [6] (fun i wr => ∃ r : Nat, r ≤ k ∧ i = .int .i64 r ∧ Two w a b wr) (fun i _ => (12 - intOf i).toNat)
  case atStart => exact ⟨0, by omega, rfl, Two.start w a b⟩
  case round =>
    obtain ⟨r, hr, rfl, hrow⟩ := hrel
    have HR := Lib.hid hrow
    clear hrow
    by_cases hrk : r < k
    · have h12 : r < 12 := by omega
      have ca := cell_row HR.out.1 h12
      have cb := cell_row HR.out.2.1 h12
      have e := HQ.out r hrk
      have g1 : ¬ a r < b r := by omega
      have g2 : ¬ b r < a r := by omega
      clear e
      go_wp2
      go_quiet (fail)
      go_wp2
      go_quiet (fail)
      go_wp2
      go_roundw
      case rel => exact ⟨r + 1, by omega, by go_num, HR.out.drewN _⟩
      case measure => simp [intOf]; omega
    · obtain rfl : r = k := by omega
      have ca := cell_row HR.out.1 hk
      have cb := cell_row HR.out.2.1 hk
      have g1 := HL.out
      have g2 : ¬ a r < b r := by omega
      go_wp2
      go_quiet (fail)
      go_wp2
      go_quiet (fail)
      go_wp2
      go_ret
      exact ⟨rfl, ((HR.out.drewN _).drewN _).2.2⟩
set_option maxHeartbeats 400000 in
theorem cmp_eq (a b : Nat → Int) (heq : ∀ j, j < 12 → a j = b j) (w : World) :
    Calls Tryd.prog 52 #[.agg (hc a), .agg (hc b)] w fun e w' => e = .returned (.int .i64 0) ∧ Below w.heap.size w w' := by
  have HQ := Lib.hid heq
  clear heq
  go_enter Tryd.func52, Tryd.ntmps52
  go_wp2
  go_loopw [6] (fun i wr => ∃ r : Nat, r ≤ 12 ∧ i = .int .i64 r ∧ Two w a b wr) (fun i _ => (12 - intOf i).toNat)
  case atStart => exact ⟨0, by omega, rfl, Two.start w a b⟩
  case round =>
    obtain ⟨r, hr, rfl, hrow⟩ := hrel
    have HR := Lib.hid hrow
    clear hrow
    by_cases hrk : r < 12
    · have h12 : r < 12 := by omega
      have ca := cell_row HR.out.1 h12
      have cb := cell_row HR.out.2.1 h12
      have e := HQ.out r hrk
      have g1 : ¬ a r < b r := by omega
      have g2 : ¬ b r < a r := by omega
      clear e
      go_wp2
      go_quiet (fail)
      go_wp2
      go_quiet (fail)
      go_wp2
      go_roundw
      case rel => exact ⟨r + 1, by omega, by go_num, HR.out.drewN _⟩
      case measure => simp [intOf]; omega
    · go_wp2
      go_ret
      exact ⟨rfl, HR.out.2.2⟩
set_option maxHeartbeats 400000 in
theorem rord_lt (a b : Nat → Int) (k : Nat) (hk : k < 12) (heq : ∀ j, j < k → a j = b j) (hd : a k < b k) (w : World) :
    Calls Tryd.prog 48 #[.agg (hc a), .agg (hc b)] w fun e w' => e = .returned (.int .i64 (-1)) ∧ Below w.heap.size w w' := by
  have HQ := Lib.hid heq
  have HL := Lib.hid hd
  clear heq hd
  go_enter Tryd.func48, Tryd.ntmps48
  go_wp2
  go_loopw [5] (fun i wr => ∃ r : Nat, r ≤ k ∧ i = .int .i64 r ∧ Two w a b wr) (fun i _ => (12 - intOf i).toNat)
  case atStart => exact ⟨0, by omega, rfl, Two.start w a b⟩
  case round =>
    obtain ⟨r, hr, rfl, hrow⟩ := hrel
    have HR := Lib.hid hrow
    clear hrow
    by_cases hrk : r < k
    · have h12 : r < 12 := by omega
      have ca := cell_row HR.out.1 h12
      have cb := cell_row HR.out.2.1 h12
      have e := HQ.out r hrk
      have g1 : ¬ a r < b r := by omega
      have g2 : ¬ b r < a r := by omega
      clear e
      go_wp2
      go_quiet (fail)
      go_wp2
      go_quiet (fail)
      go_wp2
      go_roundw
      case rel => exact ⟨r + 1, by omega, by go_num, HR.out.drewN _⟩
      case measure => simp [intOf]; omega
    · obtain rfl : r = k := by omega
      have ca := cell_row HR.out.1 hk
      have cb := cell_row HR.out.2.1 hk
      have g1 := HL.out
      go_wp2
      go_quiet (fail)
      go_wp2
      go_ret
      exact ⟨rfl, (HR.out.drewN _).2.2⟩
set_option maxHeartbeats 400000 in
theorem rord_gt (a b : Nat → Int) (k : Nat) (hk : k < 12) (heq : ∀ j, j < k → a j = b j) (hd : b k < a k) (w : World) :
    Calls Tryd.prog 48 #[.agg (hc a), .agg (hc b)] w fun e w' => e = .returned (.int .i64 1) ∧ Below w.heap.size w w' := by
  have HQ := Lib.hid heq
  have HL := Lib.hid hd
  clear heq hd
  go_enter Tryd.func48, Tryd.ntmps48
  go_wp2
  go_loopw [5] (fun i wr => ∃ r : Nat, r ≤ k ∧ i = .int .i64 r ∧ Two w a b wr) (fun i _ => (12 - intOf i).toNat)
  case atStart => exact ⟨0, by omega, rfl, Two.start w a b⟩
  case round =>
    obtain ⟨r, hr, rfl, hrow⟩ := hrel
    have HR := Lib.hid hrow
    clear hrow
    by_cases hrk : r < k
    · have h12 : r < 12 := by omega
      have ca := cell_row HR.out.1 h12
      have cb := cell_row HR.out.2.1 h12
      have e := HQ.out r hrk
      have g1 : ¬ a r < b r := by omega
      have g2 : ¬ b r < a r := by omega
      clear e
      go_wp2
      go_quiet (fail)
      go_wp2
      go_quiet (fail)
      go_wp2
      go_roundw
      case rel => exact ⟨r + 1, by omega, by go_num, HR.out.drewN _⟩
      case measure => simp [intOf]; omega
    · obtain rfl : r = k := by omega
      have ca := cell_row HR.out.1 hk
      have cb := cell_row HR.out.2.1 hk
      have g1 := HL.out
      have g2 : ¬ a r < b r := by omega
      go_wp2
      go_quiet (fail)
      go_wp2
      go_quiet (fail)
      go_wp2
      go_ret
      exact ⟨rfl, ((HR.out.drewN _).drewN _).2.2⟩
set_option maxHeartbeats 400000 in
theorem rord_eq (a b : Nat → Int) (heq : ∀ j, j < 12 → a j = b j) (w : World) :
    Calls Tryd.prog 48 #[.agg (hc a), .agg (hc b)] w fun e w' => e = .returned (.int .i64 0) ∧ Below w.heap.size w w' := by
  have HQ := Lib.hid heq
  clear heq
  go_enter Tryd.func48, Tryd.ntmps48
  go_wp2
  go_loopw [5] (fun i wr => ∃ r : Nat, r ≤ 12 ∧ i = .int .i64 r ∧ Two w a b wr) (fun i _ => (12 - intOf i).toNat)
  case atStart => exact ⟨0, by omega, rfl, Two.start w a b⟩
  case round =>
    obtain ⟨r, hr, rfl, hrow⟩ := hrel
    have HR := Lib.hid hrow
    clear hrow
    by_cases hrk : r < 12
    · have h12 : r < 12 := by omega
      have ca := cell_row HR.out.1 h12
      have cb := cell_row HR.out.2.1 h12
      have e := HQ.out r hrk
      have g1 : ¬ a r < b r := by omega
      have g2 : ¬ b r < a r := by omega
      clear e
      go_wp2
      go_quiet (fail)
      go_wp2
      go_quiet (fail)
      go_wp2
      go_roundw
      case rel => exact ⟨r + 1, by omega, by go_num, HR.out.drewN _⟩
      case measure => simp [intOf]; omega
    · go_wp2
      go_ret
      exact ⟨rfl, HR.out.2.2⟩
/-- the order of two headers: -1, 0, 1 -/
def hOrd (a b : Nat → Int) : Int := match (List.range 12).find? fun j => a j != b j with
  | some k => if a k < b k then -1 else 1
  | none => 0
theorem ord_cases (a b : Nat → Int) : (hOrd a b = -1 ∧ ∃ k, k < 12 ∧ (∀ j, j < k → a j = b j) ∧ a k < b k) ∨ (hOrd a b = 1 ∧ ∃ k, k < 12 ∧ (∀ j, j < k → a j = b j) ∧ b k < a k) ∨ (hOrd a b = 0 ∧ ∀ j, j < 12 → a j = b j) := by
  unfold hOrd
  cases hf : (List.range 12).find? fun j => a j != b j with
  | none =>
    refine Or.inr (Or.inr ⟨rfl, fun j hj => ?_⟩)
    rw [List.find?_range_eq_none] at hf
    simpa using hf j hj
  | some k =>
    rw [List.find?_range_eq_some] at hf
    obtain ⟨h1, h2, h3⟩ := hf
    have hk : k < 12 := by simpa using h2
    have hpre : ∀ j, j < k → a j = b j := fun j hj => by simpa using h3 j hj
    have hne : a k ≠ b k := by simpa using h1
    by_cases hlt : a k < b k
    · exact Or.inl ⟨by simp [hlt], k, hk, hpre, hlt⟩
    · exact Or.inr (Or.inl ⟨by simp [hlt], k, hk, hpre, by omega⟩)
theorem cmp_any (a b : Nat → Int) (w : World) : Calls Tryd.prog 52 #[.agg (hc a), .agg (hc b)] w fun e w' => e = .returned (.int .i64 (hOrd a b)) ∧ Below w.heap.size w w' := by
  rcases ord_cases a b with ⟨e, k, hk, h1, h2⟩ | ⟨e, k, hk, h1, h2⟩ | ⟨e, h⟩
  · rw [e]; exact cmp_lt a b k hk h1 h2 w
  · rw [e]; exact cmp_gt a b k hk h1 h2 w
  · rw [e]; exact cmp_eq a b h w
theorem rord_any (a b : Nat → Int) (w : World) : Calls Tryd.prog 48 #[.agg (hc a), .agg (hc b)] w fun e w' => e = .returned (.int .i64 (hOrd a b)) ∧ Below w.heap.size w w' := by
  rcases ord_cases a b with ⟨e, k, hk, h1, h2⟩ | ⟨e, k, hk, h1, h2⟩ | ⟨e, h⟩
  · rw [e]; exact rord_lt a b k hk h1 h2 w
  · rw [e]; exact rord_gt a b k hk h1 h2 w
  · rw [e]; exact rord_eq a b h w
theorem ord_range (a b : Nat → Int) : -1 ≤ hOrd a b ∧ hOrd a b ≤ 1 := by
  rcases ord_cases a b with ⟨e, _⟩ | ⟨e, _⟩ | ⟨e, _⟩ <;> rw [e] <;> decide
theorem ord_neg (a b : Nat → Int) : hOrd a b = -hOrd b a := by
  rcases ord_cases a b with ⟨e, k, hk, h1, h2⟩ | ⟨e, k, hk, h1, h2⟩ | ⟨e, h⟩ <;> rcases ord_cases b a with ⟨e', k', hk', h1', h2'⟩ | ⟨e', k', hk', h1', h2'⟩ | ⟨e', h'⟩
  · rcases Nat.lt_trichotomy k k' with g | rfl | g
    · have := h1' k g; omega
    · omega
    · have := h1 k' g; omega
  · omega
  · have := h' k hk; omega
  · omega
  · rcases Nat.lt_trichotomy k k' with g | rfl | g
    · have := h1' k g; omega
    · omega
    · have := h1 k' g; omega
  · have := h' k hk; omega
  · have := h k' hk'; omega
  · have := h k' hk'; omega
  · omega
theorem ord_zero (a b : Nat → Int) : (hOrd a b == 0) = hEq a b := by
  rw [Bool.eq_iff_iff]
  simp only [beq_iff_eq, hEq, List.all_eq_true, List.mem_range]
  rcases ord_cases a b with ⟨e, k, hk, h1, h2⟩ | ⟨e, k, hk, h1, h2⟩ | ⟨e, h⟩
  · rw [e]; exact ⟨fun h => absurd h (by decide), fun h => absurd (h k hk) (by omega)⟩
  · rw [e]; exact ⟨fun h => absurd h (by decide), fun h => absurd (h k hk) (by omega)⟩
  · rw [e]; exact ⟨fun _ => h, fun _ => rfl⟩
theorem ord_trans (a b c : Nat → Int) (h1 : hOrd a b ≤ 0) (h2 : hOrd b c ≤ 0) : hOrd a c ≤ 0 := by
  rcases ord_cases a c with ⟨e, _⟩ | ⟨e, k, hk, p, q⟩ | ⟨e, _⟩
  · rw [e]; decide
  · exfalso
    rcases ord_cases a b with ⟨e1, k1, hk1, p1, q1⟩ | ⟨e1, _⟩ | ⟨e1, p1⟩
    · rcases ord_cases b c with ⟨e2, k2, hk2, p2, q2⟩ | ⟨e2, _⟩ | ⟨e2, p2⟩
      · rcases Nat.lt_trichotomy k k1 with g | rfl | g
        · have i1 := p1 k g
          rcases Nat.lt_trichotomy k k2 with g' | rfl | g'
          · have := p2 k g'; omega
          · omega
          · have := p k2 g'; have := p1 k2 (by omega); omega
        · rcases Nat.lt_trichotomy k k2 with g' | rfl | g'
          · have := p2 k g'; omega
          · omega
          · have := p k2 g'; have := p1 k2 (by omega); omega
        · have i1 := p k1 g
          rcases Nat.lt_trichotomy k1 k2 with g' | rfl | g'
          · have := p2 k1 g'; omega
          · omega
          · have := p k2 (by omega); have := p1 k2 g'; omega
      · omega
      · rcases Nat.lt_trichotomy k k1 with g | rfl | g
        · have := p1 k g; have := p2 k hk; omega
        · have := p2 k hk; omega
        · have := p k1 g; have := p2 k1 hk1; omega
    · omega
    · rcases ord_cases b c with ⟨e2, k2, hk2, p2, q2⟩ | ⟨e2, _⟩ | ⟨e2, p2⟩
      · rcases Nat.lt_trichotomy k k2 with g' | rfl | g'
        · have := p2 k g'; have := p1 k hk; omega
        · have := p1 k hk; omega
        · have := p k2 g'; have := p1 k2 hk2; omega
      · omega
      · have := p1 k hk; have := p2 k hk; omega
  · rw [e]; decide
end Go.Proofs.YtamjaohoicedfaaDoor
