/-
  Setups, no program: which are sound, where an end leads, which ports lead nowhere.
-/
import Derived.Test.YtgmfmmabegcocaaTopMap
namespace Go.Proofs.Ytgmfmmabegcocaa
set_option maxRecDepth 20000

def rangeB (U P R : Int) : Bool := decide (1 ≤ U) && decide (U ≤ 8) && decide (1 ≤ P) && decide (P ≤ 16) && decide (0 ≤ R) && decide (R ≤ 32)
def portB (U P : Int) (e : En) : Bool := decide (0 ≤ e.1) && decide (e.1 < U) && decide (1 ≤ e.2) && decide (e.2 ≤ P)
def endsL (L : List Ln) : List En := L.flatMap fun x => [x.1, x.2]
def pairsL (L : List Ln) : List (En × En) := L.flatMap fun x => [(x.1, x.2), (x.2, x.1)]
def goodB (U P : Int) (L : List Ln) : Bool := (endsL L).all (portB U P) && decide (endsL L).Nodup
def fault (U P R : Int) (L : List Ln) : Int := if rangeB U P R = true then (if goodB U P L = true then 0 else 2) else 13
/-- where each end leads, nowhere where the setup is not sound -/
def mapL (U P R : Int) (L : List Ln) : List (En × En) := if fault U P R L = 0 then pairsL L else []
def leadV (D : List (En × En)) (e : En) : En := (D.lookup e).getD (0, 0)
def leadB (D : List (En × En)) (e : En) : Bool := (D.lookup e).isSome
/-- the ports without a link: of one unit up to a port, of all units up to one -/
def rowD (D : List (En × En)) (k j : Nat) : List En := ((List.range j).map fun (q : Nat) => (((k : Nat) : Int), (q : Int) + 1)).filter fun e => !leadB D e
def gridD (D : List (En × En)) (p k : Nat) : List En := (List.range k).flatMap fun u => rowD D u p
def edgL (U P R : Int) (L : List Ln) : List En := if fault U P R L = 0 then gridD (pairsL L) P.toNat U.toNat else []

theorem endsL_append (a b : List Ln) : endsL (a ++ b) = endsL a ++ endsL b := by simp [endsL]
theorem pairsL_append (a b : List Ln) : pairsL (a ++ b) = pairsL a ++ pairsL b := by simp [pairsL]
theorem endsL_one (x : Ln) : endsL [x] = [x.1, x.2] := by simp [endsL]
theorem pairsL_one (x : Ln) : pairsL [x] = [(x.1, x.2), (x.2, x.1)] := by simp [pairsL]
theorem pairsL_keys : ∀ L : List Ln, (pairsL L).map Prod.fst = endsL L
  | [] => rfl
  | x :: L => by
    have := pairsL_keys L
    unfold pairsL endsL at this ⊢
    simp [this]
theorem endsL_len : ∀ L : List Ln, (endsL L).length = 2 * L.length
  | [] => rfl
  | x :: L => by
    have := endsL_len L
    unfold endsL at this ⊢
    simp [this]
    omega
theorem take_some {α : Type} {L : List α} {r : Nat} {x : α} (h : L[r]? = some x) : L.take (r + 1) = L.take r ++ [x] := by
  rw [List.take_add_one, h]
  rfl
theorem endsL_take {L : List Ln} {r : Nat} {x : Ln} (h : L[r]? = some x) : endsL (L.take (r + 1)) = endsL (L.take r) ++ [x.1, x.2] := by
  rw [take_some h, endsL_append, endsL_one]
theorem pairsL_take {L : List Ln} {r : Nat} {x : Ln} (h : L[r]? = some x) : pairsL (L.take (r + 1)) = pairsL (L.take r) ++ [(x.1, x.2), (x.2, x.1)] := by
  rw [take_some h, pairsL_append, pairsL_one]
theorem endsL_sub (L : List Ln) (r : Nat) : (endsL (L.take r)).Sublist (endsL L) := by
  have : endsL L = endsL (L.take r) ++ endsL (L.drop r) := by rw [← endsL_append, List.take_append_drop]
  rw [this]
  exact List.sublist_append_left _ _
section
variable {U P R : Int} {L : List Ln}
theorem fault_range (h : rangeB U P R = false) : fault U P R L = 13 := by simp [fault, h]
theorem fault_ok (h : rangeB U P R = true) (h1 : ∀ e ∈ endsL L, portB U P e = true) (h2 : (endsL L).Nodup) : fault U P R L = 0 := by
  have : goodB U P L = true := by simp only [goodB, Bool.and_eq_true, decide_eq_true_eq]; exact ⟨List.all_eq_true.2 h1, h2⟩
  simp [fault, h, this]
theorem fault_port (h : rangeB U P R = true) {e : En} (he : e ∈ endsL L) (hp : portB U P e = false) : fault U P R L = 2 := by
  have : goodB U P L = false := by
    cases hg : goodB U P L with
    | false => rfl
    | true =>
      simp only [goodB, Bool.and_eq_true] at hg
      have := List.all_eq_true.1 hg.1 e he
      rw [hp] at this
      cases this
  simp [fault, h, this]
theorem fault_dup (h : rangeB U P R = true) (hd : ¬ (endsL L).Nodup) : fault U P R L = 2 := by
  have : goodB U P L = false := by simp [goodB, hd]
  simp [fault, h, this]
theorem fault_zero (h : fault U P R L = 0) : rangeB U P R = true ∧ (∀ e ∈ endsL L, portB U P e = true) ∧ (endsL L).Nodup := by
  unfold fault at h
  split at h
  · rename_i hr
    split at h
    · rename_i hg
      simp only [goodB, Bool.and_eq_true, decide_eq_true_eq] at hg
      exact ⟨hr, List.all_eq_true.1 hg.1, hg.2⟩
    · cases h
  · cases h
theorem mem_ends {r : Nat} {x : Ln} (h : L[r]? = some x) : x.1 ∈ endsL L ∧ x.2 ∈ endsL L := by
  have hm := List.mem_of_getElem? h
  exact ⟨List.mem_flatMap.2 ⟨x, hm, by simp⟩, List.mem_flatMap.2 ⟨x, hm, by simp⟩⟩
theorem dup_take {r : Nat} {x : Ln} (h : L[r]? = some x) (hd : ¬ (endsL (L.take r) ++ [x.1, x.2]).Nodup) : ¬ (endsL L).Nodup := fun hn => by
  rw [← endsL_take h] at hd
  exact hd (hn.sublist (endsL_sub L _))
/-! ### the store of both ends -/
theorem put_new {D : List (En × En)} {a b : En} (h : (D.map Prod.fst ++ [a, b]).Nodup) : putD (putD D a b) b a = D ++ [(a, b), (b, a)] := by
  have h1 : a ∉ D.map Prod.fst := fun hm => by
    have := (List.nodup_append.1 h).2.2 a hm a (by simp)
    exact this rfl
  have h2 : b ∉ (putD D a b).map Prod.fst := by
    rw [putD_new h1, List.map_append]
    intro hm
    rcases List.mem_append.1 hm with hm | hm
    · exact (List.nodup_append.1 h).2.2 b hm b (by simp) rfl
    · have h3 := (List.nodup_append.1 h).2.1
      simp at hm h3
      exact h3 hm.symm
  rw [putD_new h2, putD_new h1, List.append_assoc]
  rfl
theorem putD_len_le (k v : En) : ∀ D : List (En × En), (putD D k v).length ≤ D.length + 1
  | [] => Nat.le_refl _
  | q :: r => by
    unfold putD
    split
    · simp
    · have := putD_len_le k v r
      simp only [List.length_cons]
      omega
theorem putD_len_old {k v : En} {D : List (En × En)} (h : k ∈ D.map Prod.fst) : (putD D k v).length = D.length := by
  have := congrArg List.length (putD_keys_old (v := v) h)
  simpa using this
theorem put_old {D : List (En × En)} {a b : En} (hn : (D.map Prod.fst).Nodup) (h : ¬ (D.map Prod.fst ++ [a, b]).Nodup) : (putD (putD D a b) b a).length < D.length + 2 := by
  by_cases h1 : a ∈ D.map Prod.fst
  · have e1 := putD_len_old (v := b) h1
    have e2 := putD_len_le b a (putD D a b)
    omega
  · have e1 : (putD D a b).length = D.length + 1 := by rw [putD_new h1]; simp
    have h2 : b ∈ (putD D a b).map Prod.fst := by
      rw [putD_new h1, List.map_append]
      refine List.mem_append.2 ?_
      by_cases hb : b ∈ D.map Prod.fst
      · exact .inl hb
      · refine .inr ?_
        by_cases hab : a = b
        · simp [hab]
        · refine absurd (List.nodup_append.2 ⟨hn, by simp [hab], fun x hx y hy => ?_⟩) h
          simp only [List.mem_cons, List.not_mem_nil, or_false] at hy
          rcases hy with rfl | rfl
          · exact fun e => h1 (e ▸ hx)
          · exact fun e => hb (e ▸ hx)
    have e2 := putD_len_old (v := a) h2
    omega
/-! ### where an end leads -/
theorem lookup_none {D : List (En × En)} {e : En} (h : e ∉ D.map Prod.fst) : D.lookup e = none := by
  induction D with
  | nil => rfl
  | cons q r ih =>
    obtain ⟨a, b⟩ := q
    simp only [List.map_cons, List.mem_cons, not_or] at h
    rw [List.lookup_cons, show (e == a) = false from beq_eq_false_iff_ne.2 h.1]
    exact ih h.2
theorem lookup_app {D D' : List (En × En)} {e : En} (h : e ∉ D.map Prod.fst) : (D ++ D').lookup e = D'.lookup e := by
  induction D with
  | nil => rfl
  | cons q r ih =>
    obtain ⟨a, b⟩ := q
    simp only [List.map_cons, List.mem_cons, not_or] at h
    rw [List.cons_append, List.lookup_cons, show (e == a) = false from beq_eq_false_iff_ne.2 h.1]
    exact ih h.2
theorem lookup_hit {a v : En} (r : List (En × En)) : ((a, v) :: r).lookup a = some v := by rw [List.lookup_cons, show (a == a) = true from BEq.rfl]
theorem lookup_miss {a v e : En} (r : List (En × En)) (h : a ≠ e) : ((a, v) :: r).lookup e = r.lookup e := by rw [List.lookup_cons, show (e == a) = false from beq_eq_false_iff_ne.2 (fun x => h x.symm)]
theorem leadB_iff {D : List (En × En)} {e : En} : leadB D e = true ↔ e ∈ D.map Prod.fst := by
  induction D with
  | nil => simp [leadB]
  | cons q r ih =>
    obtain ⟨a, b⟩ := q
    by_cases h : a = e
    · subst h
      simp [leadB]
    · unfold leadB at ih ⊢
      rw [lookup_miss r h]
      simp only [List.map_cons, List.mem_cons]
      rw [ih]
      exact ⟨.inr, fun x => x.resolve_left (fun y => h y.symm)⟩
theorem lookup_mem {D : List (En × En)} {e v : En} (h : D.lookup e = some v) : (e, v) ∈ D := by
  induction D with
  | nil => cases h
  | cons q r ih =>
    obtain ⟨a, b⟩ := q
    by_cases ha : a = e
    · subst ha
      rw [lookup_hit] at h
      rw [Option.some.inj h]
      exact List.mem_cons_self
    · rw [lookup_miss r ha] at h
      exact List.mem_cons_of_mem _ (ih h)
theorem lookup_of_mem {D : List (En × En)} {e v : En} (hn : (D.map Prod.fst).Nodup) (h : (e, v) ∈ D) : D.lookup e = some v := by
  induction D with
  | nil => cases h
  | cons q r ih =>
    obtain ⟨a, b⟩ := q
    simp only [List.map_cons, List.nodup_cons] at hn
    rcases List.mem_cons.1 h with h | h
    · injection h with h1 h2
      rw [h1, h2]
      exact lookup_hit _
    · have : a ≠ e := fun ha => hn.1 (ha ▸ List.mem_map.2 ⟨_, h, rfl⟩)
      rw [lookup_miss r this]
      exact ih hn.2 h
theorem pairs_turn {e v : En} (h : (e, v) ∈ pairsL L) : (v, e) ∈ pairsL L := by
  obtain ⟨x, hx, hm⟩ := List.mem_flatMap.1 h
  refine List.mem_flatMap.2 ⟨x, hx, ?_⟩
  simp only [List.mem_cons, Prod.mk.injEq, List.not_mem_nil, or_false] at hm ⊢
  rcases hm with ⟨h1, h2⟩ | ⟨h1, h2⟩
  · exact .inr ⟨h2, h1⟩
  · exact .inl ⟨h2, h1⟩
theorem pairs_apart {e v : En} (hn : (endsL L).Nodup) (h : (e, v) ∈ pairsL L) : v ≠ e := by
  obtain ⟨x, hx, hm⟩ := List.mem_flatMap.1 h
  have h2 : ([x.1, x.2] : List En).Nodup := by
    obtain ⟨i, hi⟩ := List.getElem?_of_mem hx
    have h3 := hn.sublist (endsL_sub L (i + 1))
    rw [endsL_take hi] at h3
    exact (List.nodup_append.1 h3).2.1
  simp only [List.mem_cons, Prod.mk.injEq, List.not_mem_nil, or_false] at hm
  simp at h2
  rcases hm with ⟨h3, h4⟩ | ⟨h3, h4⟩
  · rw [h3, h4]; exact fun x => h2 x.symm
  · rw [h3, h4]; exact h2
theorem leadV_some {D : List (En × En)} {e v : En} (h : D.lookup e = some v) : leadV D e = v ∧ leadB D e = true := by simp [leadV, leadB, h]
theorem leadV_none {D : List (En × En)} {e : En} (h : leadB D e = false) : leadV D e = (0, 0) := by
  unfold leadB at h
  unfold leadV
  cases hl : D.lookup e with
  | none => rfl
  | some v => rw [hl] at h; cases h
/-- the other end's other end -/
theorem lead_back {e : En} (h : leadB (mapL U P R L) e = true) : leadV (mapL U P R L) (leadV (mapL U P R L) e) = e ∧ leadB (mapL U P R L) (leadV (mapL U P R L) e) = true ∧ leadV (mapL U P R L) e ≠ e ∧ fault U P R L = 0 := by
  unfold mapL at h ⊢
  by_cases hf : fault U P R L = 0
  · rw [if_pos hf] at h ⊢
    obtain ⟨_, _, hn⟩ := fault_zero hf
    cases hl : (pairsL L).lookup e with
    | none => simp [leadB, hl] at h
    | some v =>
      have hm := lookup_mem hl
      have h1 := lookup_of_mem (by rw [pairsL_keys]; exact hn) (pairs_turn hm)
      rw [(leadV_some hl).1]
      exact ⟨(leadV_some h1).1, (leadV_some h1).2, pairs_apart hn hm, hf⟩
  · rw [if_neg hf] at h
    cases h
/-! ### the grid -/
theorem rowD_step (D : List (En × En)) (k j : Nat) : rowD D k (j + 1) = rowD D k j ++ if leadB D ((k : Int), (j : Int) + 1) = true then [] else [((k : Int), (j : Int) + 1)] := by
  unfold rowD
  rw [List.range_succ, List.map_append, List.filter_append]
  congr 1
  cases h : leadB D ((k : Int), (j : Int) + 1) <;> simp [h]
theorem gridD_step (D : List (En × En)) (p k : Nat) : gridD D p (k + 1) = gridD D p k ++ rowD D k p := by
  unfold gridD
  rw [List.range_succ, List.flatMap_append]
  simp
theorem rowD_pre (D : List (En × En)) (k : Nat) {j j' : Nat} (h : j ≤ j') : rowD D k j <+: rowD D k j' := by
  induction j' with
  | zero =>
    obtain rfl : j = 0 := by omega
    exact List.prefix_refl _
  | succ n ih =>
    by_cases e : j = n + 1
    · subst e; exact List.prefix_refl _
    · rw [rowD_step]
      exact (ih (by omega)).trans (List.prefix_append _ _)
theorem gridD_pre (D : List (En × En)) (p : Nat) {k k' : Nat} (h : k ≤ k') : gridD D p k <+: gridD D p k' := by
  induction k' with
  | zero =>
    obtain rfl : k = 0 := by omega
    exact List.prefix_refl _
  | succ n ih =>
    by_cases e : k = n + 1
    · subst e; exact List.prefix_refl _
    · rw [gridD_step]
      exact (ih (by omega)).trans (List.prefix_append _ _)
/-- the next port without a link -/
theorem grid_next (D : List (En × En)) {p u k j : Nat} (hk : k < u) (hj : j < p) (h : leadB D ((k : Int), (j : Int) + 1) = false) :
    (gridD D p u)[(gridD D p k ++ rowD D k j).length]? = some ((k : Int), (j : Int) + 1) := by
  have h1 : gridD D p k ++ rowD D k (j + 1) <+: gridD D p u := by
    refine List.IsPrefix.trans ?_ (gridD_pre D p (show k + 1 ≤ u by omega))
    rw [gridD_step]
    exact (List.prefix_append_right_inj _).2 (rowD_pre D k (show j + 1 ≤ p by omega))
  rw [rowD_step, h] at h1
  obtain ⟨t, ht⟩ := h1
  rw [← ht]
  simp
theorem row_len_le (D : List (En × En)) (k : Nat) : ∀ j, (rowD D k j).length ≤ j
  | 0 => by simp [rowD]
  | j + 1 => by
    have := row_len_le D k j
    rw [rowD_step, List.length_append]
    split <;> simp <;> omega
theorem grid_len_le (D : List (En × En)) (p : Nat) : ∀ k, (gridD D p k).length ≤ p * k
  | 0 => by simp [gridD]
  | k + 1 => by
    have h1 := grid_len_le D p k
    have h2 := row_len_le D k p
    rw [gridD_step, List.length_append, Nat.mul_succ]
    omega
/-- no port without a link has one -/
theorem grid_none {D : List (En × En)} {p k : Nat} {e : En} (h : e ∈ gridD D p k) : leadB D e = false := by
  obtain ⟨u, _, h1⟩ := List.mem_flatMap.1 h
  have := (List.mem_filter.1 h1).2
  simpa using this
end
end Go.Proofs.Ytgmfmmabegcocaa
