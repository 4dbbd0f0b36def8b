/-
  Rules in memory, sorted; parts of slices.
-/
import Derived.Test.YthnfaccenlkedaaDoorPackSort
namespace Go.Proofs.YthnfaccenlkedaaDoor
set_option maxRecDepth 20000
open Go.RowKit

/-- the order of rules in memory -/
def mOrd (a b : Rm) : Int := rOrd a.u b.u
theorem mOrd_ordd : Ordd mOrd where
  neg := fun a b => rOrd_ordd.neg a.u b.u
  trans := fun a b c => rOrd_ordd.trans a.u b.u c.u
theorem map_ins (x : Rm) : ∀ L : List Rm, (ins mOrd x L).map (·.u) = ins rOrd x.u (L.map (·.u))
  | [] => rfl
  | y :: L => by
    show (if rOrd y.u x.u < 0 then y :: ins mOrd x L else if rOrd y.u x.u = 0 then x :: L else x :: y :: L).map (·.u) = if rOrd y.u x.u < 0 then y.u :: ins rOrd x.u (L.map (·.u)) else if rOrd y.u x.u = 0 then x.u :: L.map (·.u) else x.u :: y.u :: L.map (·.u)
    split
    · rw [List.map_cons, map_ins x L]
    · split <;> rfl
theorem map_insAll : ∀ (l acc : List Rm), (insAll mOrd acc l).map (·.u) = insAll rOrd (acc.map (·.u)) (l.map (·.u))
  | [], _ => rfl
  | x :: l, acc => by rw [insAll_cons, map_insAll l, map_ins, List.map_cons, insAll_cons]
/-- the table of a list of rules in memory -/
def tblM (l : List Rm) : List Rm := srtL mOrd (l.filter fun x => sndR x.u)
theorem tblM_map (l : List Rm) : (tblM l).map (·.u) = tblOf (l.map (·.u)) := by
  unfold tblM tblOf srtL
  rw [map_insAll, List.filter_map]
  rfl
theorem tblM_sub {l : List Rm} {x : Rm} (h : x ∈ tblM l) : x ∈ l := (List.mem_filter.1 (srtL_sub mOrd_ordd h)).1
theorem tblM_len (l : List Rm) : (tblM l).length ≤ l.length := Nat.le_trans (srtL_len _) (List.length_filter_le _ _)
section
variable {l L : List Rm} {r c : Nat} {x y : Rm}
theorem tblM_skip (hx : l[r]? = some x) (hs : sndR x.u = false) : tblM (l.take (r + 1)) = tblM (l.take r) := by
  rw [List.take_add_one, hx]
  unfold tblM
  rw [List.filter_append]
  simp [hs]
theorem tblM_snoc (hx : l[r]? = some x) (hs : sndR x.u = true) : tblM (l.take (r + 1)) = ins mOrd x (tblM (l.take r)) := by
  rw [List.take_add_one, hx]
  unfold tblM
  rw [List.filter_append, show (some x).toList.filter (fun x => sndR x.u) = [x] by simp [hs], srtL_snoc]
theorem ins_same (hc : ∀ (j : Nat) z, j < c → L[j]? = some z → rOrd z.u x.u < 0) (hy : L[c]? = some y) (h0 : rOrd y.u x.u = 0) : ins mOrd x L = L.take c ++ x :: L.drop (c + 1) := by
  rw [ins_set (ord := mOrd) x L c y hc hy h0, List.set_eq_take_append_cons_drop, if_pos (List.getElem?_eq_some_iff.1 hy).1]
theorem ins_new (hcl : c ≤ L.length) (hc : ∀ (j : Nat) z, j < c → L[j]? = some z → rOrd z.u x.u < 0) (hn : ∀ y, L[c]? = some y → 0 < rOrd y.u x.u) : ins mOrd x L = L.take c ++ x :: L.drop c := ins_put (ord := mOrd) x L c hcl hc hn
end
/-- s[c:] -/
def fromV (n : Nat) (p : Option Addr) (len cap c : Nat) : Value := .slice (if cap = c then p else p.map (·.add (c * n))) (len - c) (cap - c)
theorem elemR : Tryd.prog.underlying 22 = some (.slice (Tryd.prog.elem 22)) := by kernel_rfl
theorem sizeElR (w : World) : (Go.sizeOf (Tryd.prog.elem 22)).run Tryd.prog w = .ok 32 w := Tryd.sizeOf51 w
theorem execFrom {a : Act} {oi : Oper} {w : World} {x y : Operand} (ho : oi.op = .slice 22 x (some y) none none) (p : Option Addr) (len cap c : Nat) (hx : a.eval x = .slice p len cap) (hy : a.eval y = .int .i64 (c : Int))
    (hc : c ≤ len) : (execOp a.eval oi).run Tryd.prog w = .ok (.value (fromV 32 p len cap c)) w := by
  unfold execOp
  simp only [ho, hx, Option.map_some, Option.map_none, hy, Sem.run_bind]
  rw [run_sliceAt_slice (h := elemR), run_slice_l (ht := elemR) (h0 := by omega) (h1 := by omega), sizeElR]
  simp [Result.andThen, sliced, fromV]
section
variable {α : Type} {K : Kd α} {W : World} {l : List α} {p : Option Addr} {n cap c : Nat}
theorem KLies.from (h : KLies K (.slice p l.length cap) l W) (hc : c ≤ l.length) : KLies K (fromV K.n p l.length cap c) (l.drop c) W := by
  rcases h with ⟨e, rfl⟩ | ⟨ad, cap', e, hcap, hr⟩
  · injection e with e1 e2 e3
    subst e1 e3
    have : c = 0 := by simpa using hc
    subst this
    exact .inl ⟨by simp [fromV], by simp⟩
  · injection e with e1 e2 e3
    subst e1 e3
    by_cases hcc : cap = c
    · have hl : l.drop c = [] := List.drop_of_length_le (by omega)
      rw [hl]
      refine .inr ⟨ad, cap - c, ?_, Nat.zero_le _, fun i a hi => by simp at hi⟩
      unfold fromV
      rw [if_pos hcc]
      have : l.length - c = 0 := by omega
      rw [this]; rfl
    · refine .inr ⟨ad.add (c * K.n), cap - c, ?_, by rw [List.length_drop]; omega, fun i a hi => ?_⟩
      · unfold fromV
        rw [if_neg hcc, List.length_drop]; rfl
      · rw [List.getElem?_drop] at hi
        obtain ⟨h1, h2⟩ := hr (c + i) a hi
        obtain ⟨bb, oo, ss⟩ := ad
        have e : ss = none := h1
        subst e
        rw [Addr.add_mid]
        refine ⟨rfl, ?_⟩
        have e2 : oo + c * K.n + i * K.n = oo + (c + i) * K.n := by rw [Nat.add_mul]; omega
        show W.rangeAt bb (oo + c * K.n + i * K.n) (K.cells a)
        rw [e2]; exact h2
theorem KLies.upto (h : KLies K (.slice p l.length cap) l W) (hc : c ≤ l.length) : KLies K (.slice p c cap) (l.take c) W := by
  rcases h with ⟨e, rfl⟩ | ⟨ad, cap', e, hcap, hr⟩
  · injection e with e1 e2 e3
    subst e1 e3
    have : c = 0 := by simpa using hc
    subst this
    exact .inl ⟨rfl, rfl⟩
  · injection e with e1 e2 e3
    subst e1 e3
    refine .inr ⟨ad, cap, by rw [List.length_take, Nat.min_eq_left hc], by rw [List.length_take]; omega, fun i a hi => ?_⟩
    rw [List.getElem?_take] at hi
    split at hi
    · exact hr i a hi
    · cases hi
theorem KLies.capLe (h : KLies K (.slice p l.length cap) l W) : l.length ≤ cap := by
  rcases h with ⟨e, rfl⟩ | ⟨ad, cap', e, hcap, _⟩
  · simp
  · injection e with e1 e2 e3
    omega
end
end Go.Proofs.YthnfaccenlkedaaDoor
