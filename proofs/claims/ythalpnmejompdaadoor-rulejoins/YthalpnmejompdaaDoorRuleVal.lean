/-
  Rules: what a rule is, what it is in memory, its cells; the order of rules.
-/
import Derived.Test.YthalpnmejompdaaDoorPackCube
import Derived.Test.YthalpnmejompdaaDoorPackAct
import Derived.Test.YthalpnmejompdaaDoorRuleMath
namespace Go.Proofs.YthalpnmejompdaaDoor
open Go.RowKit

/-- a rule -/
structure Ru where
  m : Nat → Int
  p : Int
  acts : List Ac
  idle : Int
  hard : Int
  owner : Int
  hits : Int
  quiet : Int
  age : Int
/-- a rule in memory: where its actions lie, how many, how much room -/
structure Rm where
  u : Ru
  q : Option Addr
  n : Nat
  c : Nat
def rtl (r : Rm) : List Value := [.int .i64 r.u.p, .slice r.q r.n r.c, .int .i64 r.u.idle, .int .i64 r.u.hard, .int .i64 r.u.owner, .int .i64 r.u.hits, .int .i64 r.u.quiet, .int .i64 r.u.age]
def rcl (r : Rm) : List Value := cl r.u.m ++ rtl r
def rca (r : Rm) : Array Value := (rcl r).toArray
abbrev KR : Kd Rm := ⟨29, 33, 32, 272, rcl⟩
theorem okR : KR.Ok where
  pos := by decide
  len := fun _ => rfl
  one := fun a u hu => by
    rcases List.mem_append.1 (show u ∈ cl a.u.m ++ rtl a from hu) with h | h
    · simp only [cl, List.mem_map] at h
      obtain ⟨_, _, rfl⟩ := h
      rfl
    · simp only [rtl, List.mem_cons, List.not_mem_nil, or_false] at h
      rcases h with rfl | rfl | rfl | rfl | rfl | rfl | rfl | rfl <;> rfl
  under := Tryd.underlying33
  info := infoOf (by kernel_rfl) (by kernel_rfl) (by kernel_rfl)
  small := by decide
  room1 := by decide
theorem rca_one (r : Rm) : (rca r).all (·.oneCell') = true := by
  rw [Array.all_eq_true']
  intro x hx
  exact okR.one r x (by simpa [rca] using hx)
/-- numbers of a rule that came in -/
structure WfR (u : Ru) : Prop where
  m : Wf u.m
  a : WfAL u.acts
  room : u.acts.length * 32 ≤ 140737488355328
theorem WfR.len {u : Ru} (h : WfR u) : u.acts.length ≤ 140737488355328 := by have := h.room; omega
theorem WfR.m0 {u : Ru} (h : WfR u) : ∀ j, 0 ≤ u.m j := fun j => (h.m j).1
/-- a rule's actions lie in memory -/
def InA (r : Rm) (W : World) : Prop := KLies KA (.slice r.q r.n r.c) r.u.acts W
/-- rules that lie in memory, with their actions -/
def RLies (v : Value) (l : List Rm) (W : World) : Prop := KLies KR v l W ∧ ∀ r ∈ l, InA r W
def WfRL (l : List Rm) : Prop := ∀ r ∈ l, WfR r.u
section
variable {W W' : World} {r : Rm} {v : Value} {l : List Rm} {b o : Nat} {t : TypeId}
theorem InA.below (h : InA r W) (hb : Below W.heap.size W W') : InA r W' := KLies.below h okA hb
theorem RLies.below (h : RLies v l W) (hb : Below W.heap.size W W') : RLies v l W' := ⟨h.1.below okR hb, fun r hr => (h.2 r hr).below hb⟩
theorem WfRL.at (h : WfRL l) {i : Nat} (hi : l[i]? = some r) : WfR r.u := h _ (List.mem_of_getElem? hi)
theorem RLies.acts (h : RLies v l W) {i : Nat} (hi : l[i]? = some r) : InA r W := h.2 _ (List.mem_of_getElem? hi)
theorem rcl_lt (r : Rm) {j : Nat} {x : Value} (h : (cl r.u.m)[j]? = some x) : (rcl r)[j]? = some x := by
  unfold rcl
  rw [List.getElem?_append_left (List.getElem?_eq_some_iff.1 h).1]
  exact h
theorem rcl_ge (r : Rm) (j : Nat) : (rcl r)[24 + j]? = (rtl r)[j]? := by
  unfold rcl
  rw [List.getElem?_append_right (by simp [cl])]
  simp [cl]
/-- the cells of a rule that lies at a place -/
structure CellsR (W : World) (b o : Nat) (r : Rm) : Prop where
  m : W.rangeAt b o (cl r.u.m)
  p : W.cell? ⟨b, o + 24, none⟩ = some (.int .i64 r.u.p)
  s : W.cell? ⟨b, o + 25, none⟩ = some (.slice r.q r.n r.c)
  idle : W.cell? ⟨b, o + 26, none⟩ = some (.int .i64 r.u.idle)
  hard : W.cell? ⟨b, o + 27, none⟩ = some (.int .i64 r.u.hard)
  owner : W.cell? ⟨b, o + 28, none⟩ = some (.int .i64 r.u.owner)
  hits : W.cell? ⟨b, o + 29, none⟩ = some (.int .i64 r.u.hits)
  quiet : W.cell? ⟨b, o + 30, none⟩ = some (.int .i64 r.u.quiet)
  age : W.cell? ⟨b, o + 31, none⟩ = some (.int .i64 r.u.age)
theorem cellsR_mid (h : W.rangeAt b o (rcl r)) : CellsR W b o r where
  m := fun j x hx => h j x (rcl_lt r hx)
  p := h 24 _ (rcl_ge r 0)
  s := h 25 _ (rcl_ge r 1)
  idle := h 26 _ (rcl_ge r 2)
  hard := h 27 _ (rcl_ge r 3)
  owner := h 28 _ (rcl_ge r 4)
  hits := h 29 _ (rcl_ge r 5)
  quiet := h 30 _ (rcl_ge r 6)
  age := h 31 _ (rcl_ge r 7)
theorem Blk.range (h : Blk b (rca r) t W) : W.rangeAt b 0 (rcl r) := fun j x hx => by
  rw [Nat.zero_add, cell_of_row W b j _ _ _ h]
  unfold rca
  simpa using hx
theorem Blk.cellsR (h : Blk b (rca r) t W) : W.rangeAt b 0 (cl r.u.m) ∧ W.cell? ⟨b, 24, none⟩ = some (.int .i64 r.u.p) ∧ W.cell? ⟨b, 25, none⟩ = some (.slice r.q r.n r.c) ∧ W.cell? ⟨b, 26, none⟩ = some (.int .i64 r.u.idle) ∧ W.cell? ⟨b, 27, none⟩ = some (.int .i64 r.u.hard) ∧
    W.cell? ⟨b, 28, none⟩ = some (.int .i64 r.u.owner) ∧ W.cell? ⟨b, 29, none⟩ = some (.int .i64 r.u.hits) ∧ W.cell? ⟨b, 30, none⟩ = some (.int .i64 r.u.quiet) ∧ W.cell? ⟨b, 31, none⟩ = some (.int .i64 r.u.age) := by
  have c := cellsR_mid h.range
  have e : ∀ k, 0 + k = k := fun k => Nat.zero_add k
  exact ⟨c.m, e 24 ▸ c.p, e 25 ▸ c.s, e 26 ▸ c.idle, e 27 ▸ c.hard, e 28 ▸ c.owner, e 29 ▸ c.hits, e 30 ▸ c.quiet, e 31 ▸ c.age⟩
end
theorem zeroR : ((Tryd.prog.info? 29).bind (·.zero)).map (·.cells) = some #[Value.int IntKind.u64 0, Value.int IntKind.u64 0, Value.int IntKind.u64 0, Value.int IntKind.u64 0, Value.int IntKind.u64 0, Value.int IntKind.u64 0, Value.int IntKind.u64 0, Value.int IntKind.u64 0, Value.int IntKind.u64 0, Value.int IntKind.u64 0, Value.int IntKind.u64 0, Value.int IntKind.u64 0, Value.int IntKind.u64 0, Value.int IntKind.u64 0, Value.int IntKind.u64 0, Value.int IntKind.u64 0, Value.int IntKind.u64 0, Value.int IntKind.u64 0, Value.int IntKind.u64 0, Value.int IntKind.u64 0, Value.int IntKind.u64 0, Value.int IntKind.u64 0, Value.int IntKind.u64 0, Value.int IntKind.u64 0, Value.int IntKind.i64 0, Value.slice none 0 0, Value.int IntKind.i64 0, Value.int IntKind.i64 0, Value.int IntKind.i64 0, Value.int IntKind.i64 0, Value.int IntKind.i64 0, Value.int IntKind.i64 0] := by kernel_rfl
theorem fillOne (x : Rm) : Instr.fill (fun i' => some (i' * 32, 32)) ((Array.range (1 * 32)).map ((#[Value.int IntKind.u64 0, Value.int IntKind.u64 0, Value.int IntKind.u64 0, Value.int IntKind.u64 0, Value.int IntKind.u64 0, Value.int IntKind.u64 0, Value.int IntKind.u64 0, Value.int IntKind.u64 0, Value.int IntKind.u64 0, Value.int IntKind.u64 0, Value.int IntKind.u64 0, Value.int IntKind.u64 0, Value.int IntKind.u64 0, Value.int IntKind.u64 0, Value.int IntKind.u64 0, Value.int IntKind.u64 0, Value.int IntKind.u64 0, Value.int IntKind.u64 0, Value.int IntKind.u64 0, Value.int IntKind.u64 0, Value.int IntKind.u64 0, Value.int IntKind.u64 0, Value.int IntKind.u64 0, Value.int IntKind.u64 0, Value.int IntKind.i64 0, Value.slice none 0 0, Value.int IntKind.i64 0, Value.int IntKind.i64 0, Value.int IntKind.i64 0, Value.int IntKind.i64 0, Value.int IntKind.i64 0, Value.int IntKind.i64 0] : Array Value)[· % (#[Value.int IntKind.u64 0, Value.int IntKind.u64 0, Value.int IntKind.u64 0, Value.int IntKind.u64 0, Value.int IntKind.u64 0, Value.int IntKind.u64 0, Value.int IntKind.u64 0, Value.int IntKind.u64 0, Value.int IntKind.u64 0, Value.int IntKind.u64 0, Value.int IntKind.u64 0, Value.int IntKind.u64 0, Value.int IntKind.u64 0, Value.int IntKind.u64 0, Value.int IntKind.u64 0, Value.int IntKind.u64 0, Value.int IntKind.u64 0, Value.int IntKind.u64 0, Value.int IntKind.u64 0, Value.int IntKind.u64 0, Value.int IntKind.u64 0, Value.int IntKind.u64 0, Value.int IntKind.u64 0, Value.int IntKind.u64 0, Value.int IntKind.i64 0, Value.slice none 0 0, Value.int IntKind.i64 0, Value.int IntKind.i64 0, Value.int IntKind.i64 0, Value.int IntKind.i64 0, Value.int IntKind.i64 0, Value.int IntKind.i64 0] : Array Value).size]!)) [(0, .agg (rca x))] = some (rca x) := by kernel_rfl
theorem infoR : (Tryd.prog.info? 29).map (·.size) = some 32 := by kernel_rfl
/-- is a number from 0 to another? -/
def upB (n m : Int) : Bool := decide (0 ≤ n) && decide (n ≤ m)
/-- is a rule sound? -/
def sndR (u : Ru) : Bool := csnd u.m && (sndAL u.acts && (upB u.p 65535 && (upB u.idle 1048576 && (upB u.hard 1048576 && (upB u.owner 255 && (decide (0 ≤ u.hits) && (decide (0 ≤ u.quiet) && decide (0 ≤ u.age))))))))
/-- have two rules one key? -/
def keyB (a b : Ru) : Bool := (a.p == b.p) && cEq a.m b.m
/-- have two rules one Prio and a common header? -/
def ovB (a b : Ru) : Bool := metB a.m b.m && (a.p == b.p)
/-- the order of numbers -/
def pOrd (a b : Int) : Int := if a < b then -1 else if b < a then 1 else 0
/-- the order of rules -/
def rOrd (a b : Ru) : Int := if pOrd b.p a.p ≠ 0 then pOrd b.p a.p else cOrd a.m b.m
/-- are two rules the same in all that they have? -/
def rEq (a b : Ru) : Bool := keyB a b && (aEqL a.acts b.acts && ((a.idle == b.idle) && ((a.hard == b.hard) && ((a.owner == b.owner) && ((a.hits == b.hits) && ((a.quiet == b.quiet) && (a.age == b.age)))))))
theorem hOrd_congrL {a b c : Nat → Int} (h : hOrd a b = 0) : hOrd a c = hOrd b c := by
  have hz : ∀ j, j < 12 → a j = b j := by
    have := ord_zero a b
    rw [h] at this
    exact (hEq_iff a b).1 (by simpa using this.symm)
  unfold hOrd
  have e : ((List.range 12).find? fun j => a j != c j) = (List.range 12).find? fun j => b j != c j := by
    have : ∀ (L : List Nat), (∀ j ∈ L, j < 12) → (L.find? fun j => a j != c j) = L.find? fun j => b j != c j := by
      intro L
      induction L with
      | nil => intro _; rfl
      | cons x L ih =>
        intro hL
        have hx := hz x (hL x (by simp))
        rw [List.find?_cons, List.find?_cons, hx, ih fun j hj => hL j (by simp [hj])]
    exact this _ (by simp)
  rw [e]
  cases hf : (List.range 12).find? fun j => b j != c j with
  | none => rfl
  | some k =>
    have hk : k < 12 := by simpa using List.mem_of_find?_eq_some hf
    simp only [hz k hk]
theorem cOrd_le {a b c : Nat → Int} (h1 : cOrd a b ≤ 0) (h2 : cOrd b c ≤ 0) : cOrd a c ≤ 0 := by
  have nz : ∀ x y : Nat → Int, (hOrd x y != 0) = true ↔ hOrd x y ≠ 0 := fun x y => by simp
  unfold cOrd at *
  by_cases e1 : hOrd (care a) (care b) = 0
  · have c1 : hOrd (care a) (care c) = hOrd (care b) (care c) := hOrd_congrL e1
    rw [c1]
    rw [e1] at h1
    by_cases e2 : hOrd (care b) (care c) = 0
    · rw [e2] at h2 ⊢
      simp at h1 h2 ⊢
      exact ord_trans a b c h1 h2
    · rw [if_pos ((nz _ _).2 e2)] at h2 ⊢
      exact h2
  · rw [if_pos ((nz _ _).2 e1)] at h1
    have hac : hOrd (care a) (care c) ≤ 0 := by
      refine ord_trans _ (care b) _ h1 ?_
      by_cases e2 : hOrd (care b) (care c) = 0
      · omega
      · rw [if_pos ((nz _ _).2 e2)] at h2; exact h2
    by_cases e3 : hOrd (care a) (care c) = 0
    · exfalso
      have n1 := ord_neg (care a) (care b)
      have n3 := hOrd_congrL (a := care a) (b := care c) (c := care b) e3
      have n2 := ord_neg (care c) (care b)
      by_cases e2 : hOrd (care b) (care c) = 0
      · omega
      · rw [if_pos ((nz _ _).2 e2)] at h2
        omega
    · rw [if_pos ((nz _ _).2 e3)]
      exact hac
theorem cOrd_ordd : Ordd cOrd where
  neg := cOrd_neg
  trans := fun _ _ _ h1 h2 => cOrd_le h1 h2
theorem pOrd_neg (a b : Int) : pOrd b a = -pOrd a b := by unfold pOrd; split <;> split <;> (try split) <;> omega
theorem pOrd_zero (a b : Int) : pOrd a b = 0 ↔ a = b := by unfold pOrd; split <;> (try split) <;> omega
theorem pOrd_le (a b : Int) : pOrd a b ≤ 0 ↔ a ≤ b := by unfold pOrd; split <;> (try split) <;> omega
theorem rOrd_ordd : Ordd rOrd where
  neg := fun a b => by
    have h1 := pOrd_neg a.p b.p
    have h2 := cOrd_neg a.m b.m
    unfold rOrd
    split <;> split <;> omega
  trans := fun a b c h1 h2 => by
    have z1 := pOrd_zero b.p a.p
    have z2 := pOrd_zero c.p b.p
    have z3 := pOrd_zero c.p a.p
    have l1 := pOrd_le b.p a.p
    have l2 := pOrd_le c.p b.p
    have l3 := pOrd_le c.p a.p
    unfold rOrd at *
    by_cases e1 : pOrd b.p a.p = 0
    · by_cases e2 : pOrd c.p b.p = 0
      · rw [if_neg (by simpa using e1)] at h1
        rw [if_neg (by simpa using e2)] at h2
        have e3 : pOrd c.p a.p = 0 := by have := z1.1 e1; have := z2.1 e2; apply z3.2; omega
        rw [if_neg (by simpa using e3)]
        exact cOrd_le h1 h2
      · rw [if_pos e2] at h2
        have e3 : pOrd c.p a.p = pOrd c.p b.p := by rw [z1.1 e1]
        rw [e3, if_pos e2]
        exact h2
    · rw [if_pos e1] at h1
      have := l1.1 h1
      have q : c.p ≤ b.p := by
        by_cases e2 : pOrd c.p b.p = 0
        · have := z2.1 e2; omega
        · rw [if_pos e2] at h2; exact l2.1 h2
      have n1 : b.p ≠ a.p := fun e => e1 (z1.2 e)
      have e3 : pOrd c.p a.p ≠ 0 := fun e => by have := z3.1 e; omega
      rw [if_pos e3]
      exact l3.2 (by omega)
theorem key_ord (a b : Ru) : keyB a b = (rOrd a b == 0) := by
  have z1 := pOrd_zero b.p a.p
  have z := cOrd_zero a.m b.m
  unfold keyB rOrd
  by_cases e : a.p = b.p
  · rw [if_neg (by simpa using z1.2 e.symm), z, e]; simp
  · have e' : pOrd b.p a.p ≠ 0 := fun h => e (z1.1 h).symm
    rw [if_pos e', show (a.p == b.p) = false by simpa using e, show (pOrd b.p a.p == 0) = false by simpa using e']
    rfl
theorem keyB_symm (a b : Ru) : keyB a b = keyB b a := by
  rw [key_ord, key_ord, rOrd_ordd.neg a b]
  by_cases e : rOrd a b = 0
  · rw [e]; rfl
  · rw [show (rOrd a b == 0) = false by simpa using e, show (-rOrd a b == 0) = false by simp; omega]
theorem keyB_self (a : Ru) : keyB a a = true := by rw [key_ord, rOrd_ordd.refl]; rfl
theorem rEq_self (a : Ru) : rEq a a = true := by simp [rEq, keyB_self, (aEqL_iff a.acts a.acts).2 rfl]
theorem rEq_symm (a b : Ru) : rEq a b = rEq b a := by
  have e : aEqL a.acts b.acts = aEqL b.acts a.acts := by
    rw [Bool.eq_iff_iff, aEqL_iff, aEqL_iff]; exact ⟨Eq.symm, Eq.symm⟩
  have c : ∀ x y : Int, (x == y) = (y == x) := fun x y => by rw [Bool.eq_iff_iff, beq_iff_eq, beq_iff_eq]; exact ⟨Eq.symm, Eq.symm⟩
  unfold rEq
  rw [keyB_symm, e, c a.idle, c a.hard, c a.owner, c a.hits, c a.quiet, c a.age]
theorem ovB_symm {a b : Ru} (ha : Wf a.m) (hb : Wf b.m) : ovB a b = ovB b a := by
  unfold ovB
  rw [met_comm ha hb, show (a.p == b.p) = (b.p == a.p) by rw [Bool.eq_iff_iff, beq_iff_eq, beq_iff_eq]; exact ⟨Eq.symm, Eq.symm⟩]
end Go.Proofs.YthalpnmejompdaaDoor
