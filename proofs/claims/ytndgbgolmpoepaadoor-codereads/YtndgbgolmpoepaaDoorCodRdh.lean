/-
  The reference's Decode: what holds while it reads a message, a rule of it.
-/
import Derived.Test.YtndgbgolmpoepaaDoorCodEyc
import Derived.Test.YtndgbgolmpoepaaDoorCodDec
import Derived.Test.YtndgbgolmpoepaaDoorCodRmt
namespace Go.Proofs.YtndgbgolmpoepaaDoor
set_option maxRecDepth 20000
open Go.RowKit

/-- what the reference takes a Check for -/
abbrev chkR : Int → Bool := fun n => n == 1
theorem wrap_small {n : Int} (h0 : 0 ≤ n) (h1 : n < 4294967296) : IntKind.i64.wrap n = n := by rw [IntKind.wrap_i64]; omega
theorem wrap_sgn {n : Int} (h0 : 0 ≤ n) (h1 : n < 18446744073709551616) : IntKind.i64.wrap n = sgnI n := by
  rw [IntKind.wrap_i64]
  unfold sgnI
  split <;> omega
theorem powB_le4 {s : Nat} (h : s ≤ 4) : powB s ≤ 4294967296 := by
  have : ∀ a b : Nat, a ≤ b → powB a ≤ powB b := fun a b hab => by
    induction hab with
    | refl => exact Int.le_refl _
    | step _ ih => have := powB_pos a; show powB a ≤ powB _ * 256; omega
  have := this _ _ h
  rwa [powB_4] at this
/-- a number read of up to four bytes -/
theorem gN_rng4 {s : Nat} {x x' : Sta} {n : Int} (h : gN s x = (n, x')) (hs : s ≤ 4) (hb : ByL x.1) : 0 ≤ n ∧ n < 4294967296 := by
  have h1 := gN_rng1 h hb
  have h2 := powB_le4 hs
  exact ⟨h1.1, by omega⟩
theorem gN_rng8 {x x' : Sta} {n : Int} (h : gN 8 x = (n, x')) (hb : ByL x.1) : 0 ≤ n ∧ n < 18446744073709551616 := by
  have h1 := gN_rng1 h hb
  rw [powB_8] at h1
  exact h1
theorem gActs_byte1 {x x' : Sta} {ac : List Ac} (h : gActs x = (ac, x')) (hb : ByL x.1) : ByL x'.1 := by
  have := (gActs_ok hb).2
  rw [h] at this
  exact this
theorem nthI_len {l : List Int} {j : Nat} (h : l.length ≤ j) : nthI l j = 0 := by
  unfold nthI
  rw [List.getD_eq_getElem?_getD, List.getElem?_eq_none h]
  rfl
theorem joinC_eq {a d : List Int} (ha : a.length = 12) (hd : d.length = 12) : joinC (nthI a) (nthI d) = cubeOf (a ++ d) 0 := by
  funext j
  by_cases hj : j < 24
  · exact joinC_of ha j hj
  · unfold joinC cubeOf
    rw [if_neg (by omega), if_neg hj, nthI_len (by omega)]
/-- the cube's two headers read one after the other -/
theorem two_heads {x x1 x2 : Sta} {a d : List Int} (h0 : gNs (List.replicate 12 8) x = (a, x1)) (h1 : gNs (List.replicate 12 8) x1 = (d, x2)) : gNs (List.replicate 24 8) x = (a ++ d, x2) ∧ joinC (nthI a) (nthI d) = cubeOf (a ++ d) 0 := by
  refine ⟨by rw [rep_split, h0]; simp only; rw [h1], joinC_eq ?_ ?_⟩
  · have := rep_len 12 x; rw [h0] at this; exact this
  · have := rep_len 12 x1; rw [h1] at this; exact this
/-- a message with a change while it is read -/
def gm1 (t k : Int) (m : Nat → Int) (pr i h o : Int) (ck : Bool) (q : Option Addr) (n cp : Nat) (ac : List Ac) : Gm := ⟨1, t, 0, ⟨⟨k, m, pr, ac, i, h, o, ck⟩, q, n, cp⟩, 0, zHd, none, 0, 0, []⟩
section
variable {t k pr i h o : Int} {m a d : Nat → Int} {ck : Bool} {q : Option Addr} {n cp : Nat} {ac : List Ac}
theorem gm1_kind (v : Int) : (gca (gm1 t 0 m pr i h o ck q n cp ac)).setIfInBounds 3 (.int .i64 v) = gca (gm1 t v m pr i h o ck q n cp ac) := by kernel_rfl
theorem gm1_value (a : Nat → Int) : stM (gca (gm1 t k (fun _ => 0) pr i h o ck q n cp ac)) 4 (hl a) = gca (gm1 t k (joinC a fun _ => 0) pr i h o ck q n cp ac) := by kernel_rfl
theorem gm1_care (d : Nat → Int) : stM (gca (gm1 t k (joinC a fun _ => 0) pr i h o ck q n cp ac)) 16 (hl d) = gca (gm1 t k (joinC a d) pr i h o ck q n cp ac) := by kernel_rfl
theorem gm1_prio (v : Int) : (gca (gm1 t k m 0 i h o ck q n cp ac)).setIfInBounds 28 (.int .i64 v) = gca (gm1 t k m v i h o ck q n cp ac) := by kernel_rfl
theorem gm1_idle (v : Int) : (gca (gm1 t k m pr 0 h o ck q n cp ac)).setIfInBounds 30 (.int .i64 v) = gca (gm1 t k m pr v h o ck q n cp ac) := by kernel_rfl
theorem gm1_hard (v : Int) : (gca (gm1 t k m pr i 0 o ck q n cp ac)).setIfInBounds 31 (.int .i64 v) = gca (gm1 t k m pr i v o ck q n cp ac) := by kernel_rfl
theorem gm1_owner (v : Int) : (gca (gm1 t k m pr i h 0 ck q n cp ac)).setIfInBounds 32 (.int .i64 v) = gca (gm1 t k m pr i h v ck q n cp ac) := by kernel_rfl
theorem gm1_check (v : Bool) : (gca (gm1 t k m pr i h o ck q n cp ac)).setIfInBounds 33 (.bool v) = gca (gm1 t k m pr i h o v q n cp ac) := by kernel_rfl
theorem gm1_acts (q' : Option Addr) (n' cp' : Nat) (ac' : List Ac) : (gca (gm1 t k m pr i h o ck q n cp ac)).setIfInBounds 29 (.slice q' n' cp') = gca (gm1 t k m pr i h o ck q' n' cp' ac') := by kernel_rfl
theorem gm1_none : g2 1 t = gm1 t 0 (fun _ => 0) 0 0 0 0 false none 0 0 [] := rfl
end
theorem g0_kind (k : Int) : (gca zGm).setIfInBounds 0 (.int .i64 k) = gca (g2 k 0) := by kernel_rfl
theorem g0_txn (k t : Int) : (gca (g2 k 0)).setIfInBounds 1 (.int .i64 t) = gca (g2 k t) := by kernel_rfl
/-- a message with rules while it is read -/
def gr (k t : Int) (q : Option Addr) (cp : Nat) (L : List Rm) : Gm := ⟨k, t, 0, zMm, 0, zHd, q, L.length, cp, L⟩
theorem gr_none (k t : Int) : g2 k t = gr k t none 0 [] := rfl
theorem gr_set (k t : Int) (q : Option Addr) (cp : Nat) (L : List Rm) (q' : Option Addr) (cp' : Nat) (L' : List Rm) : (gca (gr k t q cp L)).setIfInBounds 47 (.slice q' L'.length cp') = gca (gr k t q' cp' L') := by kernel_rfl
/-- a rule while it is read -/
def ru1 (m : Nat → Int) (p i h o n1 n2 n3 : Int) : Rm := ⟨⟨m, p, [], i, h, o, n1, n2, n3⟩, none, 0, 0⟩
section
variable {m a : Nat → Int} {p i h o n1 n2 n3 : Int}
theorem ru1_zero : (#[Value.int IntKind.u64 0, Value.int IntKind.u64 0, Value.int IntKind.u64 0, Value.int IntKind.u64 0, Value.int IntKind.u64 0, Value.int IntKind.u64 0, Value.int IntKind.u64 0, Value.int IntKind.u64 0, Value.int IntKind.u64 0, Value.int IntKind.u64 0, Value.int IntKind.u64 0, Value.int IntKind.u64 0, Value.int IntKind.u64 0, Value.int IntKind.u64 0, Value.int IntKind.u64 0, Value.int IntKind.u64 0, Value.int IntKind.u64 0, Value.int IntKind.u64 0, Value.int IntKind.u64 0, Value.int IntKind.u64 0, Value.int IntKind.u64 0, Value.int IntKind.u64 0, Value.int IntKind.u64 0, Value.int IntKind.u64 0, Value.int IntKind.i64 0, Value.slice none 0 0, Value.int IntKind.i64 0, Value.int IntKind.i64 0, Value.int IntKind.i64 0, Value.int IntKind.i64 0, Value.int IntKind.i64 0, Value.int IntKind.i64 0] : Array Value) = rca (ru1 (fun _ => 0) 0 0 0 0 0 0 0) := by kernel_rfl
theorem ru1_value (a : Nat → Int) : stM (rca (ru1 (fun _ => 0) p i h o n1 n2 n3)) 0 (hl a) = rca (ru1 (joinC a fun _ => 0) p i h o n1 n2 n3) := by kernel_rfl
theorem ru1_care (d : Nat → Int) : stM (rca (ru1 (joinC a fun _ => 0) p i h o n1 n2 n3)) 12 (hl d) = rca (ru1 (joinC a d) p i h o n1 n2 n3) := by kernel_rfl
theorem ru1_prio (v : Int) : (rca (ru1 m 0 i h o n1 n2 n3)).setIfInBounds 24 (.int .i64 v) = rca (ru1 m v i h o n1 n2 n3) := by kernel_rfl
theorem ru1_idle (v : Int) : (rca (ru1 m p 0 h o n1 n2 n3)).setIfInBounds 26 (.int .i64 v) = rca (ru1 m p v h o n1 n2 n3) := by kernel_rfl
theorem ru1_hard (v : Int) : (rca (ru1 m p i 0 o n1 n2 n3)).setIfInBounds 27 (.int .i64 v) = rca (ru1 m p i v o n1 n2 n3) := by kernel_rfl
theorem ru1_owner (v : Int) : (rca (ru1 m p i h 0 n1 n2 n3)).setIfInBounds 28 (.int .i64 v) = rca (ru1 m p i h v n1 n2 n3) := by kernel_rfl
theorem ru1_hits (v : Int) : (rca (ru1 m p i h o 0 n2 n3)).setIfInBounds 29 (.int .i64 v) = rca (ru1 m p i h o v n2 n3) := by kernel_rfl
theorem ru1_quiet (v : Int) : (rca (ru1 m p i h o n1 0 n3)).setIfInBounds 30 (.int .i64 v) = rca (ru1 m p i h o n1 v n3) := by kernel_rfl
theorem ru1_age (v : Int) : (rca (ru1 m p i h o n1 n2 0)).setIfInBounds 31 (.int .i64 v) = rca (ru1 m p i h o n1 n2 v) := by kernel_rfl
theorem ru1_acts (q : Option Addr) (n c : Nat) (ac : List Ac) : (rca (ru1 m p i h o n1 n2 n3)).setIfInBounds 25 (.slice q n c) = rca ⟨⟨m, p, ac, i, h, o, n1, n2, n3⟩, q, n, c⟩ := by kernel_rfl
end
/-- while the reference reads a message: the eye, the result's box, the message's -/
def DgS (p : Option Addr) (c : Nat) (l : List Int) (w : World) (b B5 : Nat) (g : Gm) (x : Sta) (W : World) : Prop :=
  EyS w b p c l x W ∧ Blk w.heap.size #[Value.int IntKind.i64 0, Value.int IntKind.i64 0, Value.int IntKind.i64 0, Value.int IntKind.i64 0, Value.int IntKind.u64 0, Value.int IntKind.u64 0, Value.int IntKind.u64 0, Value.int IntKind.u64 0, Value.int IntKind.u64 0, Value.int IntKind.u64 0, Value.int IntKind.u64 0, Value.int IntKind.u64 0, Value.int IntKind.u64 0, Value.int IntKind.u64 0, Value.int IntKind.u64 0, Value.int IntKind.u64 0, Value.int IntKind.u64 0, Value.int IntKind.u64 0, Value.int IntKind.u64 0, Value.int IntKind.u64 0, Value.int IntKind.u64 0, Value.int IntKind.u64 0, Value.int IntKind.u64 0, Value.int IntKind.u64 0, Value.int IntKind.u64 0, Value.int IntKind.u64 0, Value.int IntKind.u64 0, Value.int IntKind.u64 0, Value.int IntKind.i64 0, Value.slice none 0 0, Value.int IntKind.i64 0, Value.int IntKind.i64 0, Value.int IntKind.i64 0, Value.bool false, Value.int IntKind.i64 0, Value.int IntKind.u64 0, Value.int IntKind.u64 0, Value.int IntKind.u64 0, Value.int IntKind.u64 0, Value.int IntKind.u64 0, Value.int IntKind.u64 0, Value.int IntKind.u64 0, Value.int IntKind.u64 0, Value.int IntKind.u64 0, Value.int IntKind.u64 0, Value.int IntKind.u64 0, Value.int IntKind.u64 0, Value.slice none 0 0] 33 W ∧ Blk B5 (gca g) 33 W ∧ w.heap.size < b ∧ b < B5
/-- while it reads a rule: the rule's box too -/
def RgS (p : Option Addr) (c : Nat) (l : List Int) (w : World) (b B5 : Nat) (g : Gm) (wr : World) (G : Nat) (r : Rm) (x : Sta) (W : World) : Prop :=
  DgS p c l w b B5 g x W ∧ RStep b wr W ∧ Blk G (rca r) 65 W ∧ B5 < G ∧ wr.heap.size ≤ G ∧ b < wr.heap.size
section
variable {w wr W W' : World} {b B5 c G j : Nat} {p : Option Addr} {l : List Int} {x x' : Sta} {g g' : Gm} {v : Value} {vs : List Value} {r r' : Rm}
theorem DgS.step (h : DgS p c l w b B5 g x W) (hs : EyS w b p c l x' W') (ht : RStep b W W') : DgS p c l w b B5 g x' W' :=
  ⟨hs, ht.blk h.2.1 (by have := h.2.2.2.1; omega), ht.blk h.2.2.1 (by have := h.2.2.2.2; omega), h.2.2.2⟩
theorem DgS.cell (h : DgS p c l w b B5 g x W) (e : (gca g).setIfInBounds j v = gca g') : DgS p c l w b B5 g' x (W.setCell ⟨B5, j, none⟩ v) :=
  ⟨h.1.cset h.2.2.2.2, h.2.1.cother (g := B5) (k := j) (by have := h.2.2.2; omega) v, Blk.oneTo h.2.2.1 e, h.2.2.2⟩
theorem DgS.mid (h : DgS p c l w b B5 g x W) (e : stM (gca g) j vs = gca g') : DgS p c l w b B5 g' x (W.setCells B5 j vs) :=
  ⟨h.1.mset h.2.2.2.2, (heap_stM_other (by have := h.2.2.2; omega) _ _ _).trans h.2.1, e ▸ heap_stM _ _ _ _ h.2.2.1, h.2.2.2⟩
theorem DgS.alloc (h : DgS p c l w b B5 g x W) (o : Obj) : DgS p c l w b B5 g x (W.alloc o) := h.step (h.1.alloc o) (EyS.salloc h.1 o)
theorem DgS.below (h : DgS p c l w b B5 g x W) (hb : Below W.heap.size W W') : DgS p c l w b B5 g x W' := h.step (h.1.below hb) (.of hb (by have := h.1.lt; omega))
theorem DgS.grow (h : DgS p c l w b B5 g x W) {row : Option Nat} (hg : W.grownBy W' row) (hr : ∀ k, row = some k → B5 < k) : DgS p c l w b B5 g x W' :=
  ⟨h.1.grow hg fun k e => by have := hr k e; have := h.2.2.2.2; omega,
   (hg.block _ h.2.1.lt fun e => by have := hr _ e.symm; have := h.2.2.2; omega).trans h.2.1,
   (hg.block _ h.2.2.1.lt fun e => by have := hr _ e.symm; omega).trans h.2.2.1, h.2.2.2⟩
theorem RgS.step (h : RgS p c l w b B5 g wr G r x W) (hs : EyS w b p c l x' W') (ht : RStep b W W') : RgS p c l w b B5 g wr G r x' W' :=
  ⟨h.1.step hs ht, h.2.1.trans ht, ht.blk h.2.2.1 (by have := h.2.2.2; omega), h.2.2.2⟩
theorem RgS.cell (h : RgS p c l w b B5 g wr G r x W) (e : (rca r).setIfInBounds j v = rca r') : RgS p c l w b B5 g wr G r' x (W.setCell ⟨G, j, none⟩ v) :=
  ⟨⟨h.1.1.cset (by have := h.2.2.2; omega), h.1.2.1.cother (g := G) (k := j) (by have := h.1.2.2.2; have := h.2.2.2; omega) v, h.1.2.2.1.cother (g := G) (k := j) (by have := h.2.2.2; omega) v, h.1.2.2.2⟩,
   h.2.1.cset h.2.2.2.2.2 h.2.2.2.2.1, Blk.oneTo h.2.2.1 e, h.2.2.2⟩
theorem RgS.mid (h : RgS p c l w b B5 g wr G r x W) (e : stM (rca r) j vs = rca r') : RgS p c l w b B5 g wr G r' x (W.setCells G j vs) :=
  ⟨⟨h.1.1.mset (by have := h.1.2.2.2; have := h.2.2.2; omega), (heap_stM_other (by have := h.1.2.2.2; have := h.2.2.2; omega) _ _ _).trans h.1.2.1, (heap_stM_other (by have := h.2.2.2; omega) _ _ _).trans h.1.2.2.1, h.1.2.2.2⟩,
   h.2.1.mset h.2.2.2.2.2 h.2.2.2.2.1, e ▸ heap_stM _ _ _ _ h.2.2.1, h.2.2.2⟩
/-- where the eye is -/
theorem EyS.at {w0 : World} {z : List Int} (h : EyS w0 b p c l (z, false) W) : ∃ k : Nat, W.cell? ⟨b, 1, none⟩ = some (.int .i64 (k : Int)) ∧ k ≤ l.length ∧ (z = [] ↔ k = l.length) := by
  obtain ⟨k, sh, h1, h2, h3, _⟩ := h
  cases sh
  · have e : z = l.drop k := by injection h3
    refine ⟨k, (cell_of_row W b 1 _ _ _ h1).trans rfl, h2, ?_⟩
    rw [e, List.drop_eq_nil_iff]
    omega
  · exact absurd h3 (by simp)
end
/-- what the reference's Decode answers, from what it reads -/
theorem dec_refW {b z : List Int} {m : Ms} {od sh : Bool} (hb : ByL b) (hg : gMs chkR (b, false) = ((m, od), (z, sh))) :
    WfMs m ∧ (sh = true → decE b = 8 ∧ decV b = zMs) ∧ (sh = false → od = false ∧ z = [] ∧ sndMs m = true → decE b = 0 ∧ decV b = m) ∧ (sh = false → ¬ (od = false ∧ z = [] ∧ sndMs m = true) → decE b = 2 ∧ decV b = zMs) := by
  have h := (gMs_ok (x := (b, false)) chkR hb).1
  rw [hg] at h
  exact ⟨h, dec_ref hg⟩
end Go.Proofs.YtndgbgolmpoepaaDoor
