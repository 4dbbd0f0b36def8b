/-
  How many ports have no link.
-/
import Derived.Test.YtgmfmmabegcocaaTopVal
namespace Go.Proofs.Ytgmfmmabegcocaa
set_option maxRecDepth 20000

theorem drop_one {a : En} : ∀ {l : List En}, l.Nodup → a ∈ l → (l.filter fun e => !decide (e = a)).length + 1 = l.length
  | [], _, h => by cases h
  | x :: l, hn, h => by
    obtain ⟨h1, h2⟩ := List.nodup_cons.1 hn
    by_cases e : x = a
    · subst e
      have : l.filter (fun e => !decide (e = x)) = l := List.filter_eq_self.2 fun y hy => by
        have : y ≠ x := fun e => h1 (e ▸ hy)
        simp [this]
      simp [this]
    · have ha : a ∈ l := (List.mem_cons.1 h).resolve_left (fun x' => e x'.symm)
      have ih := drop_one h2 ha
      rw [List.filter_cons_of_pos (by simp [e])]
      simp only [List.length_cons]
      omega
theorem drop_many {G : List En} (hG : G.Nodup) : ∀ {F : List En}, F.Nodup → (∀ e ∈ F, e ∈ G) → (G.filter fun e => !decide (e ∈ F)).length + F.length = G.length
  | [], _, _ => by simp
  | a :: F, hn, h => by
    obtain ⟨h1, h2⟩ := List.nodup_cons.1 hn
    have ih := drop_many hG h2 (fun e he => h e (List.mem_cons_of_mem _ he))
    have hs : (G.filter fun e => !decide (e ∈ F)).Nodup := hG.sublist List.filter_sublist
    have hm : a ∈ G.filter fun e => !decide (e ∈ F) := List.mem_filter.2 ⟨h a List.mem_cons_self, by simp [h1]⟩
    have h3 := drop_one hs hm
    rw [List.filter_filter] at h3
    have h4 : (G.filter fun e => !decide (e ∈ a :: F)) = G.filter fun e => !decide (e = a) && !decide (e ∈ F) := by
      refine List.filter_congr fun e _ => ?_
      by_cases e1 : e = a <;> by_cases e2 : e ∈ F <;> simp [e1, e2]
    rw [h4]
    simp only [List.length_cons]
    omega
/-- all ports: of one unit, of all units up to one -/
def rowF (p k : Nat) : List En := (List.range p).map fun (q : Nat) => (((k : Nat) : Int), (q : Int) + 1)
def gridF (p u : Nat) : List En := (List.range u).flatMap fun k => rowF p k
theorem gridF_step (p u : Nat) : gridF p (u + 1) = gridF p u ++ rowF p u := by
  unfold gridF
  rw [List.range_succ, List.flatMap_append]
  simp
theorem rowF_nodup (p k : Nat) : (rowF p k).Nodup := by
  unfold rowF
  rw [List.nodup_iff_pairwise_ne, List.pairwise_map]
  refine (List.nodup_iff_pairwise_ne.1 (List.nodup_range (n := p))).imp fun {a b} h e => ?_
  injection e with _ e
  exact h (by omega)
theorem gridF_lt {p u : Nat} {e : En} (h : e ∈ gridF p u) : e.1 < u := by
  obtain ⟨k, hk, h1⟩ := List.mem_flatMap.1 h
  obtain ⟨q, _, rfl⟩ := List.mem_map.1 h1
  have := List.mem_range.1 hk
  show (k : Int) < u
  omega
theorem gridF_nodup (p : Nat) : ∀ u, (gridF p u).Nodup
  | 0 => List.nodup_nil
  | u + 1 => by
    rw [gridF_step]
    refine List.nodup_append.2 ⟨gridF_nodup p u, rowF_nodup p u, fun a ha b hb e => ?_⟩
    have h1 := gridF_lt ha
    obtain ⟨q, _, rfl⟩ := List.mem_map.1 hb
    rw [e] at h1
    simp at h1
theorem gridF_len (p : Nat) : ∀ u, (gridF p u).length = p * u
  | 0 => rfl
  | u + 1 => by
    rw [gridF_step, List.length_append, gridF_len p u, Nat.mul_succ]
    simp [rowF]
theorem gridF_mem {p u : Nat} {e : En} (h : portB u p e = true) : e ∈ gridF p u := by
  simp only [portB, Bool.and_eq_true, decide_eq_true_eq] at h
  obtain ⟨a, b⟩ := e
  simp only at h
  refine List.mem_flatMap.2 ⟨a.toNat, List.mem_range.2 (by omega), List.mem_map.2 ⟨(b - 1).toNat, List.mem_range.2 (by omega), ?_⟩⟩
  rw [Prod.mk.injEq]
  omega
theorem gridD_eq (D : List (En × En)) (p : Nat) : ∀ u, gridD D p u = (gridF p u).filter fun e => !leadB D e
  | 0 => rfl
  | u + 1 => by
    rw [gridD_step, gridF_step, List.filter_append, gridD_eq D p u]
    rfl
theorem grid_count {u p : Nat} {R : Int} {L : List Ln} (hf : fault u p R L = 0) : (gridD (pairsL L) p u).length + 2 * L.length = p * u := by
  obtain ⟨_, h1, h2⟩ := fault_zero hf
  have h3 := drop_many (gridF_nodup p u) h2 (fun e he => gridF_mem (h1 e he))
  rw [endsL_len, gridF_len] at h3
  rw [gridD_eq, ← h3]
  congr 2
  refine List.filter_congr fun e _ => ?_
  have hi := leadB_iff (D := pairsL L) (e := e)
  rw [pairsL_keys] at hi
  by_cases he : e ∈ endsL L
  · simp [he, hi.2 he]
  · have : leadB (pairsL L) e = false := by
      cases hl : leadB (pairsL L) e with
      | false => rfl
      | true => exact absurd (hi.1 hl) he
    simp [he, this]
end Go.Proofs.Ytgmfmmabegcocaa
