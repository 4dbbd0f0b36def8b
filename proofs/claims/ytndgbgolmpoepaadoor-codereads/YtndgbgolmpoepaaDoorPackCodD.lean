/- Several of my texts as one: CodRdh, CodRk0, CodRk6, CodRk8, CodRk1, CodRk9, CodRka. -/
import Derived.Test.YtndgbgolmpoepaaDoorPackCodE
import Derived.Test.YtndgbgolmpoepaaDoorCodDec
import Derived.Test.YtndgbgolmpoepaaDoorCodRmt
/-
  The reference's Decode: what holds while it reads a message, a rule of it.
-/
namespace Go.Proofs.YtndgbgolmpoepaaDoor
set_option maxRecDepth 20000
open Go.RowKit

/-- what the reference takes a Check for -/
abbrev chkR : Int → Bool := fun n => n == 1
theorem wrap_small {n : Int} (h0 : 0 ≤ n) (h1 : n < 4294967296) : IntKind.i64.wrap n = n := by rw [IntKind.wrap_i64]; omega
theorem wrap_sgn {n : Int} (h0 : 0 ≤ n) (h1 : n < 18446744073709551616) : IntKind.i64.wrap n = sgnI n := by
  rw [IntKind.wrap_i64]
  unfold sgnI
  split <;> omega
theorem powB_le4 {s : Nat} (h : s ≤ 4) : powB s ≤ 4294967296 := by
  have : ∀ a b : Nat, a ≤ b → powB a ≤ powB b := fun a b hab => by
    induction hab with
    | refl => exact Int.le_refl _
    | step _ ih => have := powB_pos a; show powB a ≤ powB _ * 256; omega
  have := this _ _ h
  rwa [powB_4] at this
/-- a number read of up to four bytes -/
theorem gN_rng4 {s : Nat} {x x' : Sta} {n : Int} (h : gN s x = (n, x')) (hs : s ≤ 4) (hb : ByL x.1) : 0 ≤ n ∧ n < 4294967296 := by
  have h1 := gN_rng1 h hb
  have h2 := powB_le4 hs
  exact ⟨h1.1, by omega⟩
theorem gN_rng8 {x x' : Sta} {n : Int} (h : gN 8 x = (n, x')) (hb : ByL x.1) : 0 ≤ n ∧ n < 18446744073709551616 := by
  have h1 := gN_rng1 h hb
  rw [powB_8] at h1
  exact h1
theorem gActs_byte1 {x x' : Sta} {ac : List Ac} (h : gActs x = (ac, x')) (hb : ByL x.1) : ByL x'.1 := by
  have := (gActs_ok hb).2
  rw [h] at this
  exact this
theorem nthI_len {l : List Int} {j : Nat} (h : l.length ≤ j) : nthI l j = 0 := by
  unfold nthI
  rw [List.getD_eq_getElem?_getD, List.getElem?_eq_none h]
  rfl
theorem joinC_eq {a d : List Int} (ha : a.length = 12) (hd : d.length = 12) : joinC (nthI a) (nthI d) = cubeOf (a ++ d) 0 := by
  funext j
  by_cases hj : j < 24
  · exact joinC_of ha j hj
  · unfold joinC cubeOf
    rw [if_neg (by omega), if_neg hj, nthI_len (by omega)]
/-- the cube's two headers read one after the other -/
theorem two_heads {x x1 x2 : Sta} {a d : List Int} (h0 : gNs (List.replicate 12 8) x = (a, x1)) (h1 : gNs (List.replicate 12 8) x1 = (d, x2)) : gNs (List.replicate 24 8) x = (a ++ d, x2) ∧ joinC (nthI a) (nthI d) = cubeOf (a ++ d) 0 := by
  refine ⟨by rw [rep_split, h0]; simp only; rw [h1], joinC_eq ?_ ?_⟩
  · have := rep_len 12 x; rw [h0] at this; exact this
  · have := rep_len 12 x1; rw [h1] at this; exact this
/-- a message with a change while it is read -/
def gm1 (t k : Int) (m : Nat → Int) (pr i h o : Int) (ck : Bool) (q : Option Addr) (n cp : Nat) (ac : List Ac) : Gm := ⟨1, t, 0, ⟨⟨k, m, pr, ac, i, h, o, ck⟩, q, n, cp⟩, 0, zHd, none, 0, 0, []⟩
section
variable {t k pr i h o : Int} {m a d : Nat → Int} {ck : Bool} {q : Option Addr} {n cp : Nat} {ac : List Ac}
theorem gm1_kind (v : Int) : (gca (gm1 t 0 m pr i h o ck q n cp ac)).setIfInBounds 3 (.int .i64 v) = gca (gm1 t v m pr i h o ck q n cp ac) := by kernel_rfl
theorem gm1_value (a : Nat → Int) : stM (gca (gm1 t k (fun _ => 0) pr i h o ck q n cp ac)) 4 (hl a) = gca (gm1 t k (joinC a fun _ => 0) pr i h o ck q n cp ac) := by kernel_rfl
theorem gm1_care (d : Nat → Int) : stM (gca (gm1 t k (joinC a fun _ => 0) pr i h o ck q n cp ac)) 16 (hl d) = gca (gm1 t k (joinC a d) pr i h o ck q n cp ac) := by kernel_rfl
theorem gm1_prio (v : Int) : (gca (gm1 t k m 0 i h o ck q n cp ac)).setIfInBounds 28 (.int .i64 v) = gca (gm1 t k m v i h o ck q n cp ac) := by kernel_rfl
theorem gm1_idle (v : Int) : (gca (gm1 t k m pr 0 h o ck q n cp ac)).setIfInBounds 30 (.int .i64 v) = gca (gm1 t k m pr v h o ck q n cp ac) := by kernel_rfl
theorem gm1_hard (v : Int) : (gca (gm1 t k m pr i 0 o ck q n cp ac)).setIfInBounds 31 (.int .i64 v) = gca (gm1 t k m pr i v o ck q n cp ac) := by kernel_rfl
theorem gm1_owner (v : Int) : (gca (gm1 t k m pr i h 0 ck q n cp ac)).setIfInBounds 32 (.int .i64 v) = gca (gm1 t k m pr i h v ck q n cp ac) := by kernel_rfl
theorem gm1_check (v : Bool) : (gca (gm1 t k m pr i h o ck q n cp ac)).setIfInBounds 33 (.bool v) = gca (gm1 t k m pr i h o v q n cp ac) := by kernel_rfl
theorem gm1_acts (q' : Option Addr) (n' cp' : Nat) (ac' : List Ac) : (gca (gm1 t k m pr i h o ck q n cp ac)).setIfInBounds 29 (.slice q' n' cp') = gca (gm1 t k m pr i h o ck q' n' cp' ac') := by kernel_rfl
theorem gm1_none : g2 1 t = gm1 t 0 (fun _ => 0) 0 0 0 0 false none 0 0 [] := rfl
end
theorem g0_kind (k : Int) : (gca zGm).setIfInBounds 0 (.int .i64 k) = gca (g2 k 0) := by kernel_rfl
theorem g0_txn (k t : Int) : (gca (g2 k 0)).setIfInBounds 1 (.int .i64 t) = gca (g2 k t) := by kernel_rfl
/-- a message with rules while it is read -/
def gr (k t : Int) (q : Option Addr) (cp : Nat) (L : List Rm) : Gm := ⟨k, t, 0, zMm, 0, zHd, q, L.length, cp, L⟩
theorem gr_none (k t : Int) : g2 k t = gr k t none 0 [] := rfl
theorem gr_set (k t : Int) (q : Option Addr) (cp : Nat) (L : List Rm) (q' : Option Addr) (cp' : Nat) (L' : List Rm) : (gca (gr k t q cp L)).setIfInBounds 47 (.slice q' L'.length cp') = gca (gr k t q' cp' L') := by kernel_rfl
/-- a rule while it is read -/
def ru1 (m : Nat → Int) (p i h o n1 n2 n3 : Int) : Rm := ⟨⟨m, p, [], i, h, o, n1, n2, n3⟩, none, 0, 0⟩
section
variable {m a : Nat → Int} {p i h o n1 n2 n3 : Int}
theorem ru1_zero : (#[Value.int IntKind.u64 0, Value.int IntKind.u64 0, Value.int IntKind.u64 0, Value.int IntKind.u64 0, Value.int IntKind.u64 0, Value.int IntKind.u64 0, Value.int IntKind.u64 0, Value.int IntKind.u64 0, Value.int IntKind.u64 0, Value.int IntKind.u64 0, Value.int IntKind.u64 0, Value.int IntKind.u64 0, Value.int IntKind.u64 0, Value.int IntKind.u64 0, Value.int IntKind.u64 0, Value.int IntKind.u64 0, Value.int IntKind.u64 0, Value.int IntKind.u64 0, Value.int IntKind.u64 0, Value.int IntKind.u64 0, Value.int IntKind.u64 0, Value.int IntKind.u64 0, Value.int IntKind.u64 0, Value.int IntKind.u64 0, Value.int IntKind.i64 0, Value.slice none 0 0, Value.int IntKind.i64 0, Value.int IntKind.i64 0, Value.int IntKind.i64 0, Value.int IntKind.i64 0, Value.int IntKind.i64 0, Value.int IntKind.i64 0] : Array Value) = rca (ru1 (fun _ => 0) 0 0 0 0 0 0 0) := by kernel_rfl
theorem ru1_value (a : Nat → Int) : stM (rca (ru1 (fun _ => 0) p i h o n1 n2 n3)) 0 (hl a) = rca (ru1 (joinC a fun _ => 0) p i h o n1 n2 n3) := by kernel_rfl
theorem ru1_care (d : Nat → Int) : stM (rca (ru1 (joinC a fun _ => 0) p i h o n1 n2 n3)) 12 (hl d) = rca (ru1 (joinC a d) p i h o n1 n2 n3) := by kernel_rfl
theorem ru1_prio (v : Int) : (rca (ru1 m 0 i h o n1 n2 n3)).setIfInBounds 24 (.int .i64 v) = rca (ru1 m v i h o n1 n2 n3) := by kernel_rfl
theorem ru1_idle (v : Int) : (rca (ru1 m p 0 h o n1 n2 n3)).setIfInBounds 26 (.int .i64 v) = rca (ru1 m p v h o n1 n2 n3) := by kernel_rfl
theorem ru1_hard (v : Int) : (rca (ru1 m p i 0 o n1 n2 n3)).setIfInBounds 27 (.int .i64 v) = rca (ru1 m p i v o n1 n2 n3) := by kernel_rfl
theorem ru1_owner (v : Int) : (rca (ru1 m p i h 0 n1 n2 n3)).setIfInBounds 28 (.int .i64 v) = rca (ru1 m p i h v n1 n2 n3) := by kernel_rfl
theorem ru1_hits (v : Int) : (rca (ru1 m p i h o 0 n2 n3)).setIfInBounds 29 (.int .i64 v) = rca (ru1 m p i h o v n2 n3) := by kernel_rfl
theorem ru1_quiet (v : Int) : (rca (ru1 m p i h o n1 0 n3)).setIfInBounds 30 (.int .i64 v) = rca (ru1 m p i h o n1 v n3) := by kernel_rfl
theorem ru1_age (v : Int) : (rca (ru1 m p i h o n1 n2 0)).setIfInBounds 31 (.int .i64 v) = rca (ru1 m p i h o n1 n2 v) := by kernel_rfl
theorem ru1_acts (q : Option Addr) (n c : Nat) (ac : List Ac) : (rca (ru1 m p i h o n1 n2 n3)).setIfInBounds 25 (.slice q n c) = rca ⟨⟨m, p, ac, i, h, o, n1, n2, n3⟩, q, n, c⟩ := by kernel_rfl
end
/-- while the reference reads a message: the eye, the result's box, the message's -/
def DgS (p : Option Addr) (c : Nat) (l : List Int) (w : World) (b B5 : Nat) (g : Gm) (x : Sta) (W : World) : Prop :=
  EyS w b p c l x W ∧ Blk w.heap.size #[Value.int IntKind.i64 0, Value.int IntKind.i64 0, Value.int IntKind.i64 0, Value.int IntKind.i64 0, Value.int IntKind.u64 0, Value.int IntKind.u64 0, Value.int IntKind.u64 0, Value.int IntKind.u64 0, Value.int IntKind.u64 0, Value.int IntKind.u64 0, Value.int IntKind.u64 0, Value.int IntKind.u64 0, Value.int IntKind.u64 0, Value.int IntKind.u64 0, Value.int IntKind.u64 0, Value.int IntKind.u64 0, Value.int IntKind.u64 0, Value.int IntKind.u64 0, Value.int IntKind.u64 0, Value.int IntKind.u64 0, Value.int IntKind.u64 0, Value.int IntKind.u64 0, Value.int IntKind.u64 0, Value.int IntKind.u64 0, Value.int IntKind.u64 0, Value.int IntKind.u64 0, Value.int IntKind.u64 0, Value.int IntKind.u64 0, Value.int IntKind.i64 0, Value.slice none 0 0, Value.int IntKind.i64 0, Value.int IntKind.i64 0, Value.int IntKind.i64 0, Value.bool false, Value.int IntKind.i64 0, Value.int IntKind.u64 0, Value.int IntKind.u64 0, Value.int IntKind.u64 0, Value.int IntKind.u64 0, Value.int IntKind.u64 0, Value.int IntKind.u64 0, Value.int IntKind.u64 0, Value.int IntKind.u64 0, Value.int IntKind.u64 0, Value.int IntKind.u64 0, Value.int IntKind.u64 0, Value.int IntKind.u64 0, Value.slice none 0 0] 33 W ∧ Blk B5 (gca g) 33 W ∧ w.heap.size < b ∧ b < B5
/-- while it reads a rule: the rule's box too -/
def RgS (p : Option Addr) (c : Nat) (l : List Int) (w : World) (b B5 : Nat) (g : Gm) (wr : World) (G : Nat) (r : Rm) (x : Sta) (W : World) : Prop :=
  DgS p c l w b B5 g x W ∧ RStep b wr W ∧ Blk G (rca r) 65 W ∧ B5 < G ∧ wr.heap.size ≤ G ∧ b < wr.heap.size
section
variable {w wr W W' : World} {b B5 c G j : Nat} {p : Option Addr} {l : List Int} {x x' : Sta} {g g' : Gm} {v : Value} {vs : List Value} {r r' : Rm}
theorem DgS.step (h : DgS p c l w b B5 g x W) (hs : EyS w b p c l x' W') (ht : RStep b W W') : DgS p c l w b B5 g x' W' :=
  ⟨hs, ht.blk h.2.1 (by have := h.2.2.2.1; omega), ht.blk h.2.2.1 (by have := h.2.2.2.2; omega), h.2.2.2⟩
theorem DgS.cell (h : DgS p c l w b B5 g x W) (e : (gca g).setIfInBounds j v = gca g') : DgS p c l w b B5 g' x (W.setCell ⟨B5, j, none⟩ v) :=
  ⟨h.1.cset h.2.2.2.2, h.2.1.cother (g := B5) (k := j) (by have := h.2.2.2; omega) v, Blk.oneTo h.2.2.1 e, h.2.2.2⟩
theorem DgS.mid (h : DgS p c l w b B5 g x W) (e : stM (gca g) j vs = gca g') : DgS p c l w b B5 g' x (W.setCells B5 j vs) :=
  ⟨h.1.mset h.2.2.2.2, (heap_stM_other (by have := h.2.2.2; omega) _ _ _).trans h.2.1, e ▸ heap_stM _ _ _ _ h.2.2.1, h.2.2.2⟩
theorem DgS.alloc (h : DgS p c l w b B5 g x W) (o : Obj) : DgS p c l w b B5 g x (W.alloc o) := h.step (h.1.alloc o) (EyS.salloc h.1 o)
theorem DgS.below (h : DgS p c l w b B5 g x W) (hb : Below W.heap.size W W') : DgS p c l w b B5 g x W' := h.step (h.1.below hb) (.of hb (by have := h.1.lt; omega))
theorem DgS.grow (h : DgS p c l w b B5 g x W) {row : Option Nat} (hg : W.grownBy W' row) (hr : ∀ k, row = some k → B5 < k) : DgS p c l w b B5 g x W' :=
  ⟨h.1.grow hg fun k e => by have := hr k e; have := h.2.2.2.2; omega,
   (hg.block _ h.2.1.lt fun e => by have := hr _ e.symm; have := h.2.2.2; omega).trans h.2.1,
   (hg.block _ h.2.2.1.lt fun e => by have := hr _ e.symm; omega).trans h.2.2.1, h.2.2.2⟩
theorem RgS.step (h : RgS p c l w b B5 g wr G r x W) (hs : EyS w b p c l x' W') (ht : RStep b W W') : RgS p c l w b B5 g wr G r x' W' :=
  ⟨h.1.step hs ht, h.2.1.trans ht, ht.blk h.2.2.1 (by have := h.2.2.2; omega), h.2.2.2⟩
theorem RgS.cell (h : RgS p c l w b B5 g wr G r x W) (e : (rca r).setIfInBounds j v = rca r') : RgS p c l w b B5 g wr G r' x (W.setCell ⟨G, j, none⟩ v) :=
  ⟨⟨h.1.1.cset (by have := h.2.2.2; omega), h.1.2.1.cother (g := G) (k := j) (by have := h.1.2.2.2; have := h.2.2.2; omega) v, h.1.2.2.1.cother (g := G) (k := j) (by have := h.2.2.2; omega) v, h.1.2.2.2⟩,
   h.2.1.cset h.2.2.2.2.2 h.2.2.2.2.1, Blk.oneTo h.2.2.1 e, h.2.2.2⟩
theorem RgS.mid (h : RgS p c l w b B5 g wr G r x W) (e : stM (rca r) j vs = rca r') : RgS p c l w b B5 g wr G r' x (W.setCells G j vs) :=
  ⟨⟨h.1.1.mset (by have := h.1.2.2.2; have := h.2.2.2; omega), (heap_stM_other (by have := h.1.2.2.2; have := h.2.2.2; omega) _ _ _).trans h.1.2.1, (heap_stM_other (by have := h.2.2.2; omega) _ _ _).trans h.1.2.2.1, h.1.2.2.2⟩,
   h.2.1.mset h.2.2.2.2.2 h.2.2.2.2.1, e ▸ heap_stM _ _ _ _ h.2.2.1, h.2.2.2⟩
/-- where the eye is -/
theorem EyS.at {w0 : World} {z : List Int} (h : EyS w0 b p c l (z, false) W) : ∃ k : Nat, W.cell? ⟨b, 1, none⟩ = some (.int .i64 (k : Int)) ∧ k ≤ l.length ∧ (z = [] ↔ k = l.length) := by
  obtain ⟨k, sh, h1, h2, h3, _⟩ := h
  cases sh
  · have e : z = l.drop k := by injection h3
    refine ⟨k, (cell_of_row W b 1 _ _ _ h1).trans rfl, h2, ?_⟩
    rw [e, List.drop_eq_nil_iff]
    omega
  · exact absurd h3 (by simp)
end
/-- what the reference's Decode answers, from what it reads -/
theorem dec_refW {b z : List Int} {m : Ms} {od sh : Bool} (hb : ByL b) (hg : gMs chkR (b, false) = ((m, od), (z, sh))) :
    WfMs m ∧ (sh = true → decE b = 8 ∧ decV b = zMs) ∧ (sh = false → od = false ∧ z = [] ∧ sndMs m = true → decE b = 0 ∧ decV b = m) ∧ (sh = false → ¬ (od = false ∧ z = [] ∧ sndMs m = true) → decE b = 2 ∧ decV b = zMs) := by
  have h := (gMs_ok (x := (b, false)) chkR hb).1
  rw [hg] at h
  exact ⟨h, dec_ref hg⟩
end Go.Proofs.YtndgbgolmpoepaaDoor

/-
  The reference's Decode: the other kinds.
-/
namespace Go.Proofs.YtndgbgolmpoepaaDoor
set_option maxRecDepth 20000
open Go.RowKit

set_option maxRecDepth 100000 in
set_option maxHeartbeats 16000000 in
theorem rdec_0 {p : Option Addr} {c : Nat} {l : List Int} (w : World) (hh : EyH w p c l) {k t : Int} {x1 x2 : Sta} (h0 : gN 1 (l, false) = (k, x1)) (h1 : gN 4 x1 = (t, x2)) (e1 : k ≠ 1) (e6 : k ≠ 6) (e8 : k ≠ 8) (e9 : ¬ (k = 9 ∨ k = 10)) :
    Calls Tryd.prog 19 #[.slice p l.length c] w (DecRet w (decE l) (decV l)) := by
  obtain ⟨n, hn⟩ : ∃ n, n = l.length := ⟨_, rfl⟩
  have HH := Lib.hid hh
  have HN := Lib.hid hn
  have hb0 : ByL l := hh.byte
  have rk := gN_rng4 h0 (by decide) hb0
  have b1 := gN_byte1 h0 hb0
  have rt := gN_rng4 h1 (by decide) b1
  have b2 := gN_byte1 h1 b1
  have hpart := gMs_parts chkR h0 h1
  obtain ⟨z, sh⟩ := x2
  have hX : gMs chkR (l, false) = (((⟨k, t, 0, zMu, 0, zHd, []⟩ : Ms), false), (z, sh)) := by
    rw [hpart]
    unfold gBody
    rw [if_neg e1, if_neg e6, if_neg e8, if_neg e9]
  have f1 := eq_false0 e1
  have f6 := eq_false0 e6
  have f8 := eq_false0 e8
  have f9 := eq_false0 (fun h : k = 9 => e9 (.inl h))
  have f10 := eq_false0 (fun h : k = 10 => e9 (.inr h))
  clear e1 e6 e8 e9
  obtain ⟨es, hes⟩ : ∃ es, es = decE l := ⟨_, rfl⟩
  obtain ⟨V, hV⟩ : ∃ V, V = decV l := ⟨_, rfl⟩
  have HDW := Lib.hid (dec_refW hb0 hX)
  rw [← hes, ← hV] at HDW ⊢
  clear hes hV
  have HX := Lib.hid hX
  have E0 := Lib.hid h0
  have E1 := Lib.hid h1
  have rk0 := rk.1
  have rk1 := rk.2
  have rt0 := rt.1
  have rt1 := rt.2
  have wk := wrap_small rk.1 rk.2
  have wt := wrap_small rt.1 rt.2
  clear rk rt b1 b2 hpart hX h0 h1 hb0
  rw [← hn]
  clear hn hh
  have HSP := Lib.hid (Below.refl w.heap.size w)
  go_enter Tryd.func19, Tryd.ntmps19
  go_upto_region 1 with fail
  have R0 := Lib.hid (Blk.new w #[Value.int IntKind.i64 0, Value.int IntKind.i64 0, Value.int IntKind.i64 0, Value.int IntKind.i64 0, Value.int IntKind.u64 0, Value.int IntKind.u64 0, Value.int IntKind.u64 0, Value.int IntKind.u64 0, Value.int IntKind.u64 0, Value.int IntKind.u64 0, Value.int IntKind.u64 0, Value.int IntKind.u64 0, Value.int IntKind.u64 0, Value.int IntKind.u64 0, Value.int IntKind.u64 0, Value.int IntKind.u64 0, Value.int IntKind.u64 0, Value.int IntKind.u64 0, Value.int IntKind.u64 0, Value.int IntKind.u64 0, Value.int IntKind.u64 0, Value.int IntKind.u64 0, Value.int IntKind.u64 0, Value.int IntKind.u64 0, Value.int IntKind.u64 0, Value.int IntKind.u64 0, Value.int IntKind.u64 0, Value.int IntKind.u64 0, Value.int IntKind.i64 0, Value.slice none 0 0, Value.int IntKind.i64 0, Value.int IntKind.i64 0, Value.int IntKind.i64 0, Value.bool false, Value.int IntKind.i64 0, Value.int IntKind.u64 0, Value.int IntKind.u64 0, Value.int IntKind.u64 0, Value.int IntKind.u64 0, Value.int IntKind.u64 0, Value.int IntKind.u64 0, Value.int IntKind.u64 0, Value.int IntKind.u64 0, Value.int IntKind.u64 0, Value.int IntKind.u64 0, Value.int IntKind.u64 0, Value.int IntKind.u64 0, Value.slice none 0 0] 33)
  have K0 := Lib.hid (below1 w (.cells #[Value.int IntKind.i64 0, Value.int IntKind.i64 0, Value.int IntKind.i64 0, Value.int IntKind.i64 0, Value.int IntKind.u64 0, Value.int IntKind.u64 0, Value.int IntKind.u64 0, Value.int IntKind.u64 0, Value.int IntKind.u64 0, Value.int IntKind.u64 0, Value.int IntKind.u64 0, Value.int IntKind.u64 0, Value.int IntKind.u64 0, Value.int IntKind.u64 0, Value.int IntKind.u64 0, Value.int IntKind.u64 0, Value.int IntKind.u64 0, Value.int IntKind.u64 0, Value.int IntKind.u64 0, Value.int IntKind.u64 0, Value.int IntKind.u64 0, Value.int IntKind.u64 0, Value.int IntKind.u64 0, Value.int IntKind.u64 0, Value.int IntKind.u64 0, Value.int IntKind.u64 0, Value.int IntKind.u64 0, Value.int IntKind.u64 0, Value.int IntKind.i64 0, Value.slice none 0 0, Value.int IntKind.i64 0, Value.int IntKind.i64 0, Value.int IntKind.i64 0, Value.bool false, Value.int IntKind.i64 0, Value.int IntKind.u64 0, Value.int IntKind.u64 0, Value.int IntKind.u64 0, Value.int IntKind.u64 0, Value.int IntKind.u64 0, Value.int IntKind.u64 0, Value.int IntKind.u64 0, Value.int IntKind.u64 0, Value.int IntKind.u64 0, Value.int IntKind.u64 0, Value.int IntKind.u64 0, Value.int IntKind.u64 0, Value.slice none 0 0] 33))
  generalize hw : w.alloc (.cells #[Value.int IntKind.i64 0, Value.int IntKind.i64 0, Value.int IntKind.i64 0, Value.int IntKind.i64 0, Value.int IntKind.u64 0, Value.int IntKind.u64 0, Value.int IntKind.u64 0, Value.int IntKind.u64 0, Value.int IntKind.u64 0, Value.int IntKind.u64 0, Value.int IntKind.u64 0, Value.int IntKind.u64 0, Value.int IntKind.u64 0, Value.int IntKind.u64 0, Value.int IntKind.u64 0, Value.int IntKind.u64 0, Value.int IntKind.u64 0, Value.int IntKind.u64 0, Value.int IntKind.u64 0, Value.int IntKind.u64 0, Value.int IntKind.u64 0, Value.int IntKind.u64 0, Value.int IntKind.u64 0, Value.int IntKind.u64 0, Value.int IntKind.u64 0, Value.int IntKind.u64 0, Value.int IntKind.u64 0, Value.int IntKind.u64 0, Value.int IntKind.i64 0, Value.slice none 0 0, Value.int IntKind.i64 0, Value.int IntKind.i64 0, Value.int IntKind.i64 0, Value.bool false, Value.int IntKind.i64 0, Value.int IntKind.u64 0, Value.int IntKind.u64 0, Value.int IntKind.u64 0, Value.int IntKind.u64 0, Value.int IntKind.u64 0, Value.int IntKind.u64 0, Value.int IntKind.u64 0, Value.int IntKind.u64 0, Value.int IntKind.u64 0, Value.int IntKind.u64 0, Value.int IntKind.u64 0, Value.int IntKind.u64 0, Value.slice none 0 0] 33) = W0 at *
  clear hw
  go_upto_region 2 with fail
  have HS1 := Lib.hid (show EyS w W0.heap.size p c l (l, false) (W0.alloc (.cells #[.slice p n c, .int .i64 0, .bool false] 76)) from ⟨0, false, by rw [← HN.out]; exact Blk.new _ _ _, Nat.zero_le _, rfl, K0.out.trans ((below1 _ _).mono K0.out.size), K0.out.size⟩)
  have R1 := Lib.hid (R0.out.old (.cells #[.slice p n c, .int .i64 0, .bool false] 76))
  have HNe := Lib.hid (show w.heap.size < W0.heap.size from R0.out.lt)
  clear R0 K0 HSP
  generalize W0.alloc (.cells #[.slice p n c, .int .i64 0, .bool false] 76) = W1 at *
  generalize W0.heap.size = b at *
  go_upto_region 3 with fail
  have HM2 := Lib.hid (show DgS p c l w b W1.heap.size zGm (l, false) (W1.alloc (.cells #[Value.int IntKind.i64 0, Value.int IntKind.i64 0, Value.int IntKind.i64 0, Value.int IntKind.i64 0, Value.int IntKind.u64 0, Value.int IntKind.u64 0, Value.int IntKind.u64 0, Value.int IntKind.u64 0, Value.int IntKind.u64 0, Value.int IntKind.u64 0, Value.int IntKind.u64 0, Value.int IntKind.u64 0, Value.int IntKind.u64 0, Value.int IntKind.u64 0, Value.int IntKind.u64 0, Value.int IntKind.u64 0, Value.int IntKind.u64 0, Value.int IntKind.u64 0, Value.int IntKind.u64 0, Value.int IntKind.u64 0, Value.int IntKind.u64 0, Value.int IntKind.u64 0, Value.int IntKind.u64 0, Value.int IntKind.u64 0, Value.int IntKind.u64 0, Value.int IntKind.u64 0, Value.int IntKind.u64 0, Value.int IntKind.u64 0, Value.int IntKind.i64 0, Value.slice none 0 0, Value.int IntKind.i64 0, Value.int IntKind.i64 0, Value.int IntKind.i64 0, Value.bool false, Value.int IntKind.i64 0, Value.int IntKind.u64 0, Value.int IntKind.u64 0, Value.int IntKind.u64 0, Value.int IntKind.u64 0, Value.int IntKind.u64 0, Value.int IntKind.u64 0, Value.int IntKind.u64 0, Value.int IntKind.u64 0, Value.int IntKind.u64 0, Value.int IntKind.u64 0, Value.int IntKind.u64 0, Value.int IntKind.u64 0, Value.slice none 0 0] 33)) from ⟨HS1.out.alloc _, R1.out.old _, by rw [← zGca]; exact Blk.new _ _ _, HNe.out, HS1.out.lt⟩)
  clear HS1 R1 HNe
  generalize W1.alloc (.cells #[Value.int IntKind.i64 0, Value.int IntKind.i64 0, Value.int IntKind.i64 0, Value.int IntKind.i64 0, Value.int IntKind.u64 0, Value.int IntKind.u64 0, Value.int IntKind.u64 0, Value.int IntKind.u64 0, Value.int IntKind.u64 0, Value.int IntKind.u64 0, Value.int IntKind.u64 0, Value.int IntKind.u64 0, Value.int IntKind.u64 0, Value.int IntKind.u64 0, Value.int IntKind.u64 0, Value.int IntKind.u64 0, Value.int IntKind.u64 0, Value.int IntKind.u64 0, Value.int IntKind.u64 0, Value.int IntKind.u64 0, Value.int IntKind.u64 0, Value.int IntKind.u64 0, Value.int IntKind.u64 0, Value.int IntKind.u64 0, Value.int IntKind.u64 0, Value.int IntKind.u64 0, Value.int IntKind.u64 0, Value.int IntKind.u64 0, Value.int IntKind.i64 0, Value.slice none 0 0, Value.int IntKind.i64 0, Value.int IntKind.i64 0, Value.int IntKind.i64 0, Value.bool false, Value.int IntKind.i64 0, Value.int IntKind.u64 0, Value.int IntKind.u64 0, Value.int IntKind.u64 0, Value.int IntKind.u64 0, Value.int IntKind.u64 0, Value.int IntKind.u64 0, Value.int IntKind.u64 0, Value.int IntKind.u64 0, Value.int IntKind.u64 0, Value.int IntKind.u64 0, Value.int IntKind.u64 0, Value.int IntKind.u64 0, Value.slice none 0 0] 33) = W2 at *
  generalize W1.heap.size = B5 at *
  have HC := Lib.hid (eget_h HH.out b (l, false) 1 (by decide) (by decide) W2 HM2.out.1)
  rw [E0.out] at HC
  go_wp2_with (go_at_call 38; refine HC.out.mono ?_; rintro e W3 ⟨rfl, hs, ht⟩; refine Hid.out ?_)
  have HM3 := Lib.hid (HM2.out.step hs ht)
  clear hs ht HC HM2 
  refine Lib.hid ?_
  go_wp2_with (refine storeCell rfl 3 _ _ rfl B5 0 (.int .i64 k) rfl rfl rfl (HM3.out.2.2.1.there (by rw [gca_size]; decide)) infoInt ?_; refine Hid.out ?_)
  have HM4 := Lib.hid (HM3.out.cell (j := 0) (v := .int .i64 k) (g0_kind k))
  clear HM3
  generalize W3.setCell ⟨B5, 0, none⟩ (.int .i64 k) = W4 at *
  refine Lib.hid ?_
  have HC := Lib.hid (eget_h HH.out b x1 4 (by decide) (by decide) W4 HM4.out.1)
  rw [E1.out] at HC
  go_wp2_with (go_at_call 38; refine HC.out.mono ?_; rintro e W5 ⟨rfl, hs, ht⟩; refine Hid.out ?_)
  have HM5 := Lib.hid (HM4.out.step hs ht)
  clear hs ht HC HM4 
  refine Lib.hid ?_
  go_wp2_with (refine storeCell rfl 3 _ _ rfl B5 1 (.int .i64 t) rfl rfl rfl (HM5.out.2.2.1.there (by rw [gca_size]; decide)) infoInt ?_; refine Hid.out ?_)
  have HM6 := Lib.hid (HM5.out.cell (j := 1) (v := .int .i64 t) (g0_txn k t))
  clear HM5
  generalize W5.setCell ⟨B5, 1, none⟩ (.int .i64 t) = W6 at *
  refine Lib.hid ?_
  have kk : W6.cell? ⟨B5, 0, none⟩ = some (.int .i64 k) := HM6.out.2.2.1.cellsG.kind
  have HBd := Lib.hid (show w.heap.size < w.heap.size + 1 by omega)
  have HO := Lib.hid (show OwnG (w.heap.size + 1) (g2 k t) W6 from ⟨KOwns.nil _ _, OwnRs.nil _ _⟩)
  have HU := Lib.hid (show (g2 k t : Gm).u = ⟨k, t, 0, zMu, 0, zHd, []⟩ from rfl)
  generalize (g2 k t : Gm) = G at *
  generalize (⟨k, t, 0, zMu, 0, zHd, []⟩ : Ms) = M at *
  have HD := Lib.hid HDW.out.2
  have HWm := Lib.hid HDW.out.1
  clear HDW
  have k1 := HM6.out.1.short
  cases sh
  rotate_left
  · have HE := Lib.hid (HD.out.1 rfl)
    go_wp2_with (refine wpList_store_row rfl 33 _ _ rfl w.heap.size #[Value.int IntKind.i64 0, Value.int IntKind.i64 0, Value.int IntKind.i64 0, Value.int IntKind.i64 0, Value.int IntKind.u64 0, Value.int IntKind.u64 0, Value.int IntKind.u64 0, Value.int IntKind.u64 0, Value.int IntKind.u64 0, Value.int IntKind.u64 0, Value.int IntKind.u64 0, Value.int IntKind.u64 0, Value.int IntKind.u64 0, Value.int IntKind.u64 0, Value.int IntKind.u64 0, Value.int IntKind.u64 0, Value.int IntKind.u64 0, Value.int IntKind.u64 0, Value.int IntKind.u64 0, Value.int IntKind.u64 0, Value.int IntKind.u64 0, Value.int IntKind.u64 0, Value.int IntKind.u64 0, Value.int IntKind.u64 0, Value.int IntKind.u64 0, Value.int IntKind.u64 0, Value.int IntKind.u64 0, Value.int IntKind.u64 0, Value.int IntKind.i64 0, Value.slice none 0 0, Value.int IntKind.i64 0, Value.int IntKind.i64 0, Value.int IntKind.i64 0, Value.bool false, Value.int IntKind.i64 0, Value.int IntKind.u64 0, Value.int IntKind.u64 0, Value.int IntKind.u64 0, Value.int IntKind.u64 0, Value.int IntKind.u64 0, Value.int IntKind.u64 0, Value.int IntKind.u64 0, Value.int IntKind.u64 0, Value.int IntKind.u64 0, Value.int IntKind.u64 0, Value.int IntKind.u64 0, Value.int IntKind.u64 0, Value.slice none 0 0] rfl rfl 33 _ HM6.out.2.1 (by kernel_rfl) rfl (by simp [Value.oneCell']) ?_)
    refine bodyPost_ret (v := .tuple #[.agg (gca zGm), .int .i64 8]) ?_ rfl ⟨zGm, by rw [HE.out.1], by rw [HE.out.2]; rfl, zGm_in _, below_setRow HM6.out.1.kept (Nat.le_refl _) _⟩
    exact res_twoG Tryd.results19 (cs := gca zGm) rfl rfl (by rw [← zGca]; exact HM6.out.2.1.rset _) (gca_size _)
  obtain ⟨j, hj1, hj2, hj3⟩ := HM6.out.1.at
  rw [← HN.out] at hj2 hj3
  by_cases hjn : j = n
  rotate_left
  · have HE := Lib.hid (HD.out.2.2 rfl (fun q => hjn (hj3.1 q.2.1)))
    have hne : ((j : Int) == (n : Int)) = false := by rw [beq_eq_false_iff_ne]; omega
    have hne1 : ((j : Int) != (n : Int)) = true := by rw [bne_iff_ne]; omega
    clear hjn hj2 hj3
    go_wp2_with (refine wpList_store_row rfl 33 _ _ rfl w.heap.size #[Value.int IntKind.i64 0, Value.int IntKind.i64 0, Value.int IntKind.i64 0, Value.int IntKind.i64 0, Value.int IntKind.u64 0, Value.int IntKind.u64 0, Value.int IntKind.u64 0, Value.int IntKind.u64 0, Value.int IntKind.u64 0, Value.int IntKind.u64 0, Value.int IntKind.u64 0, Value.int IntKind.u64 0, Value.int IntKind.u64 0, Value.int IntKind.u64 0, Value.int IntKind.u64 0, Value.int IntKind.u64 0, Value.int IntKind.u64 0, Value.int IntKind.u64 0, Value.int IntKind.u64 0, Value.int IntKind.u64 0, Value.int IntKind.u64 0, Value.int IntKind.u64 0, Value.int IntKind.u64 0, Value.int IntKind.u64 0, Value.int IntKind.u64 0, Value.int IntKind.u64 0, Value.int IntKind.u64 0, Value.int IntKind.u64 0, Value.int IntKind.i64 0, Value.slice none 0 0, Value.int IntKind.i64 0, Value.int IntKind.i64 0, Value.int IntKind.i64 0, Value.bool false, Value.int IntKind.i64 0, Value.int IntKind.u64 0, Value.int IntKind.u64 0, Value.int IntKind.u64 0, Value.int IntKind.u64 0, Value.int IntKind.u64 0, Value.int IntKind.u64 0, Value.int IntKind.u64 0, Value.int IntKind.u64 0, Value.int IntKind.u64 0, Value.int IntKind.u64 0, Value.int IntKind.u64 0, Value.int IntKind.u64 0, Value.slice none 0 0] rfl rfl 33 _ HM6.out.2.1 (by kernel_rfl) rfl (by simp [Value.oneCell']) ?_)
    refine bodyPost_ret (v := .tuple #[.agg (gca zGm), .int .i64 2]) ?_ rfl ⟨zGm, by rw [HE.out.1], by rw [HE.out.2]; rfl, zGm_in _, below_setRow HM6.out.1.kept (Nat.le_refl _) _⟩
    exact res_twoG Tryd.results19 (cs := gca zGm) rfl rfl (by rw [← zGca]; exact HM6.out.2.1.rset _) (gca_size _)
  have HZ := Lib.hid (hj3.2 hjn)
  clear hj2 hj3
  subst hjn
  have heq0 : ((j : Int) == (j : Int)) = true := by simp
  have heq1 : ((j : Int) != (j : Int)) = false := by simp
  have HC := Lib.hid (rmsg_any G (by rw [HU.out]; exact HWm.out) W6 HO.out.inG)
  rw [HU.out] at HC
  by_cases hsn : sndMs M = true
  rotate_left
  · have HE := Lib.hid (HD.out.2.2 rfl (fun q => hsn q.2.2))
    rw [eq_false_of_ne_true hsn] at HC
    go_wp2_with (first
      | (refine loadRowG rfl 33 _ rfl B5 rfl 33 (gca G) (0, 0) HM6.out.2.2.1 Tryd.underlying33 rfl (by rw [gca_size]; exact infoG) ?_)
      | (go_at_call 13; refine HC.out.mono ?_; rintro e Wv ⟨rfl, hv⟩; refine Hid.out ?_))
    have HMv := Lib.hid (HM6.out.below hv)
    clear hv HM6 HO HC hj1 k1
    refine Lib.hid ?_
    go_wp2_with (refine wpList_store_row rfl 33 _ _ rfl w.heap.size #[Value.int IntKind.i64 0, Value.int IntKind.i64 0, Value.int IntKind.i64 0, Value.int IntKind.i64 0, Value.int IntKind.u64 0, Value.int IntKind.u64 0, Value.int IntKind.u64 0, Value.int IntKind.u64 0, Value.int IntKind.u64 0, Value.int IntKind.u64 0, Value.int IntKind.u64 0, Value.int IntKind.u64 0, Value.int IntKind.u64 0, Value.int IntKind.u64 0, Value.int IntKind.u64 0, Value.int IntKind.u64 0, Value.int IntKind.u64 0, Value.int IntKind.u64 0, Value.int IntKind.u64 0, Value.int IntKind.u64 0, Value.int IntKind.u64 0, Value.int IntKind.u64 0, Value.int IntKind.u64 0, Value.int IntKind.u64 0, Value.int IntKind.u64 0, Value.int IntKind.u64 0, Value.int IntKind.u64 0, Value.int IntKind.u64 0, Value.int IntKind.i64 0, Value.slice none 0 0, Value.int IntKind.i64 0, Value.int IntKind.i64 0, Value.int IntKind.i64 0, Value.bool false, Value.int IntKind.i64 0, Value.int IntKind.u64 0, Value.int IntKind.u64 0, Value.int IntKind.u64 0, Value.int IntKind.u64 0, Value.int IntKind.u64 0, Value.int IntKind.u64 0, Value.int IntKind.u64 0, Value.int IntKind.u64 0, Value.int IntKind.u64 0, Value.int IntKind.u64 0, Value.int IntKind.u64 0, Value.int IntKind.u64 0, Value.slice none 0 0] rfl rfl 33 _ HMv.out.2.1 (by kernel_rfl) rfl (by simp [Value.oneCell']) ?_)
    refine bodyPost_ret (v := .tuple #[.agg (gca zGm), .int .i64 2]) ?_ rfl ⟨zGm, by rw [HE.out.1], by rw [HE.out.2]; rfl, zGm_in _, below_setRow HMv.out.1.kept (Nat.le_refl _) _⟩
    exact res_twoG Tryd.results19 (cs := gca zGm) rfl rfl (by rw [← zGca]; exact HMv.out.2.1.rset _) (gca_size _)
  have HE := Lib.hid (HD.out.2.1 rfl ⟨by first | rfl | trivial, HZ.out, hsn⟩)
  rw [hsn] at HC
  go_wp2_with (first
    | (refine loadRowG rfl 33 _ rfl B5 rfl 33 (gca G) (0, 0) HM6.out.2.2.1 Tryd.underlying33 rfl (by rw [gca_size]; exact infoG) ?_)
    | (go_at_call 13; refine HC.out.mono ?_; rintro e Wv ⟨rfl, hv⟩; refine Hid.out ?_))
  have HMv := Lib.hid (HM6.out.below hv)
  have HOv := Lib.hid (HO.out.below hv)
  clear hv HM6 HO HC hj1 k1
  refine Lib.hid ?_
  go_wp2_with (first
    | (refine wpList_load_row rfl 33 _ rfl B5 rfl 33 (gca G) (0, 0) _ HMv.out.2.2.1 Tryd.underlying33 rfl (by rw [gca_size]; exact infoG) ?_)
    | (refine wpList_store_row rfl 33 _ _ rfl w.heap.size (gca G) rfl rfl 33 _ HMv.out.2.1 (by kernel_rfl) rfl (gca_one _) ?_))
  refine bodyPost_ret (v := .tuple #[.agg (gca G), .int .i64 0]) ?_ rfl ⟨G, by rw [HE.out.1], by rw [HE.out.2]; exact HU.out, (HOv.out.rset HBd.out).inG, below_setRow HMv.out.1.kept (Nat.le_refl _) _⟩
  exact res_twoG Tryd.results19 (cs := gca G) rfl rfl (HMv.out.2.1.rset _) (gca_size _)
end Go.Proofs.YtndgbgolmpoepaaDoor

/-
  The reference's Decode: an error.
-/
namespace Go.Proofs.YtndgbgolmpoepaaDoor
set_option maxRecDepth 20000
open Go.RowKit

set_option maxRecDepth 100000 in
set_option maxHeartbeats 16000000 in
theorem rdec_6 {p : Option Addr} {c : Nat} {l : List Int} (w : World) (hh : EyH w p c l) {k t : Int} {x1 x2 : Sta} (h0 : gN 1 (l, false) = (k, x1)) (h1 : gN 4 x1 = (t, x2)) (hk : k = 6) :
    Calls Tryd.prog 19 #[.slice p l.length c] w (DecRet w (decE l) (decV l)) := by
  obtain ⟨n, hn⟩ : ∃ n, n = l.length := ⟨_, rfl⟩
  have HH := Lib.hid hh
  have HN := Lib.hid hn
  have hb0 : ByL l := hh.byte
  have rk := gN_rng4 h0 (by decide) hb0
  have b1 := gN_byte1 h0 hb0
  have rt := gN_rng4 h1 (by decide) b1
  have b2 := gN_byte1 h1 b1
  have hpart := gMs_parts chkR h0 h1
  subst hk
  obtain ⟨⟨n1, ⟨z, sh⟩⟩, h2⟩ : ∃ y, gN 1 x2 = y := ⟨_, rfl⟩
  have hX : gMs chkR (l, false) = (((⟨6, t, n1, zMu, 0, zHd, []⟩ : Ms), false), (z, sh)) := by
    rw [hpart]
    show (((⟨6, t, (gN 1 x2).1, zMu, 0, zHd, []⟩ : Ms), false), (gN 1 x2).2) = _
    rw [h2]
  have r2 := gN_rng4 h2 (by decide) b2
  have r20 := r2.1
  have r21 := r2.2
  have w2 := wrap_small r2.1 r2.2
  have E2 := Lib.hid h2
  clear r2 h2
  obtain ⟨es, hes⟩ : ∃ es, es = decE l := ⟨_, rfl⟩
  obtain ⟨V, hV⟩ : ∃ V, V = decV l := ⟨_, rfl⟩
  have HDW := Lib.hid (dec_refW hb0 hX)
  rw [← hes, ← hV] at HDW ⊢
  clear hes hV
  have HX := Lib.hid hX
  have E0 := Lib.hid h0
  have E1 := Lib.hid h1
  have rk0 := rk.1
  have rk1 := rk.2
  have rt0 := rt.1
  have rt1 := rt.2
  have wk := wrap_small rk.1 rk.2
  have wt := wrap_small rt.1 rt.2
  clear rk rt b1 b2 hpart hX h0 h1 hb0
  rw [← hn]
  clear hn hh
  have HSP := Lib.hid (Below.refl w.heap.size w)
  go_enter Tryd.func19, Tryd.ntmps19
  go_upto_region 1 with fail
  have R0 := Lib.hid (Blk.new w #[Value.int IntKind.i64 0, Value.int IntKind.i64 0, Value.int IntKind.i64 0, Value.int IntKind.i64 0, Value.int IntKind.u64 0, Value.int IntKind.u64 0, Value.int IntKind.u64 0, Value.int IntKind.u64 0, Value.int IntKind.u64 0, Value.int IntKind.u64 0, Value.int IntKind.u64 0, Value.int IntKind.u64 0, Value.int IntKind.u64 0, Value.int IntKind.u64 0, Value.int IntKind.u64 0, Value.int IntKind.u64 0, Value.int IntKind.u64 0, Value.int IntKind.u64 0, Value.int IntKind.u64 0, Value.int IntKind.u64 0, Value.int IntKind.u64 0, Value.int IntKind.u64 0, Value.int IntKind.u64 0, Value.int IntKind.u64 0, Value.int IntKind.u64 0, Value.int IntKind.u64 0, Value.int IntKind.u64 0, Value.int IntKind.u64 0, Value.int IntKind.i64 0, Value.slice none 0 0, Value.int IntKind.i64 0, Value.int IntKind.i64 0, Value.int IntKind.i64 0, Value.bool false, Value.int IntKind.i64 0, Value.int IntKind.u64 0, Value.int IntKind.u64 0, Value.int IntKind.u64 0, Value.int IntKind.u64 0, Value.int IntKind.u64 0, Value.int IntKind.u64 0, Value.int IntKind.u64 0, Value.int IntKind.u64 0, Value.int IntKind.u64 0, Value.int IntKind.u64 0, Value.int IntKind.u64 0, Value.int IntKind.u64 0, Value.slice none 0 0] 33)
  have K0 := Lib.hid (below1 w (.cells #[Value.int IntKind.i64 0, Value.int IntKind.i64 0, Value.int IntKind.i64 0, Value.int IntKind.i64 0, Value.int IntKind.u64 0, Value.int IntKind.u64 0, Value.int IntKind.u64 0, Value.int IntKind.u64 0, Value.int IntKind.u64 0, Value.int IntKind.u64 0, Value.int IntKind.u64 0, Value.int IntKind.u64 0, Value.int IntKind.u64 0, Value.int IntKind.u64 0, Value.int IntKind.u64 0, Value.int IntKind.u64 0, Value.int IntKind.u64 0, Value.int IntKind.u64 0, Value.int IntKind.u64 0, Value.int IntKind.u64 0, Value.int IntKind.u64 0, Value.int IntKind.u64 0, Value.int IntKind.u64 0, Value.int IntKind.u64 0, Value.int IntKind.u64 0, Value.int IntKind.u64 0, Value.int IntKind.u64 0, Value.int IntKind.u64 0, Value.int IntKind.i64 0, Value.slice none 0 0, Value.int IntKind.i64 0, Value.int IntKind.i64 0, Value.int IntKind.i64 0, Value.bool false, Value.int IntKind.i64 0, Value.int IntKind.u64 0, Value.int IntKind.u64 0, Value.int IntKind.u64 0, Value.int IntKind.u64 0, Value.int IntKind.u64 0, Value.int IntKind.u64 0, Value.int IntKind.u64 0, Value.int IntKind.u64 0, Value.int IntKind.u64 0, Value.int IntKind.u64 0, Value.int IntKind.u64 0, Value.int IntKind.u64 0, Value.slice none 0 0] 33))
  generalize hw : w.alloc (.cells #[Value.int IntKind.i64 0, Value.int IntKind.i64 0, Value.int IntKind.i64 0, Value.int IntKind.i64 0, Value.int IntKind.u64 0, Value.int IntKind.u64 0, Value.int IntKind.u64 0, Value.int IntKind.u64 0, Value.int IntKind.u64 0, Value.int IntKind.u64 0, Value.int IntKind.u64 0, Value.int IntKind.u64 0, Value.int IntKind.u64 0, Value.int IntKind.u64 0, Value.int IntKind.u64 0, Value.int IntKind.u64 0, Value.int IntKind.u64 0, Value.int IntKind.u64 0, Value.int IntKind.u64 0, Value.int IntKind.u64 0, Value.int IntKind.u64 0, Value.int IntKind.u64 0, Value.int IntKind.u64 0, Value.int IntKind.u64 0, Value.int IntKind.u64 0, Value.int IntKind.u64 0, Value.int IntKind.u64 0, Value.int IntKind.u64 0, Value.int IntKind.i64 0, Value.slice none 0 0, Value.int IntKind.i64 0, Value.int IntKind.i64 0, Value.int IntKind.i64 0, Value.bool false, Value.int IntKind.i64 0, Value.int IntKind.u64 0, Value.int IntKind.u64 0, Value.int IntKind.u64 0, Value.int IntKind.u64 0, Value.int IntKind.u64 0, Value.int IntKind.u64 0, Value.int IntKind.u64 0, Value.int IntKind.u64 0, Value.int IntKind.u64 0, Value.int IntKind.u64 0, Value.int IntKind.u64 0, Value.int IntKind.u64 0, Value.slice none 0 0] 33) = W0 at *
  clear hw
  go_upto_region 2 with fail
  have HS1 := Lib.hid (show EyS w W0.heap.size p c l (l, false) (W0.alloc (.cells #[.slice p n c, .int .i64 0, .bool false] 76)) from ⟨0, false, by rw [← HN.out]; exact Blk.new _ _ _, Nat.zero_le _, rfl, K0.out.trans ((below1 _ _).mono K0.out.size), K0.out.size⟩)
  have R1 := Lib.hid (R0.out.old (.cells #[.slice p n c, .int .i64 0, .bool false] 76))
  have HNe := Lib.hid (show w.heap.size < W0.heap.size from R0.out.lt)
  clear R0 K0 HSP
  generalize W0.alloc (.cells #[.slice p n c, .int .i64 0, .bool false] 76) = W1 at *
  generalize W0.heap.size = b at *
  go_upto_region 3 with fail
  have HM2 := Lib.hid (show DgS p c l w b W1.heap.size zGm (l, false) (W1.alloc (.cells #[Value.int IntKind.i64 0, Value.int IntKind.i64 0, Value.int IntKind.i64 0, Value.int IntKind.i64 0, Value.int IntKind.u64 0, Value.int IntKind.u64 0, Value.int IntKind.u64 0, Value.int IntKind.u64 0, Value.int IntKind.u64 0, Value.int IntKind.u64 0, Value.int IntKind.u64 0, Value.int IntKind.u64 0, Value.int IntKind.u64 0, Value.int IntKind.u64 0, Value.int IntKind.u64 0, Value.int IntKind.u64 0, Value.int IntKind.u64 0, Value.int IntKind.u64 0, Value.int IntKind.u64 0, Value.int IntKind.u64 0, Value.int IntKind.u64 0, Value.int IntKind.u64 0, Value.int IntKind.u64 0, Value.int IntKind.u64 0, Value.int IntKind.u64 0, Value.int IntKind.u64 0, Value.int IntKind.u64 0, Value.int IntKind.u64 0, Value.int IntKind.i64 0, Value.slice none 0 0, Value.int IntKind.i64 0, Value.int IntKind.i64 0, Value.int IntKind.i64 0, Value.bool false, Value.int IntKind.i64 0, Value.int IntKind.u64 0, Value.int IntKind.u64 0, Value.int IntKind.u64 0, Value.int IntKind.u64 0, Value.int IntKind.u64 0, Value.int IntKind.u64 0, Value.int IntKind.u64 0, Value.int IntKind.u64 0, Value.int IntKind.u64 0, Value.int IntKind.u64 0, Value.int IntKind.u64 0, Value.int IntKind.u64 0, Value.slice none 0 0] 33)) from ⟨HS1.out.alloc _, R1.out.old _, by rw [← zGca]; exact Blk.new _ _ _, HNe.out, HS1.out.lt⟩)
  clear HS1 R1 HNe
  generalize W1.alloc (.cells #[Value.int IntKind.i64 0, Value.int IntKind.i64 0, Value.int IntKind.i64 0, Value.int IntKind.i64 0, Value.int IntKind.u64 0, Value.int IntKind.u64 0, Value.int IntKind.u64 0, Value.int IntKind.u64 0, Value.int IntKind.u64 0, Value.int IntKind.u64 0, Value.int IntKind.u64 0, Value.int IntKind.u64 0, Value.int IntKind.u64 0, Value.int IntKind.u64 0, Value.int IntKind.u64 0, Value.int IntKind.u64 0, Value.int IntKind.u64 0, Value.int IntKind.u64 0, Value.int IntKind.u64 0, Value.int IntKind.u64 0, Value.int IntKind.u64 0, Value.int IntKind.u64 0, Value.int IntKind.u64 0, Value.int IntKind.u64 0, Value.int IntKind.u64 0, Value.int IntKind.u64 0, Value.int IntKind.u64 0, Value.int IntKind.u64 0, Value.int IntKind.i64 0, Value.slice none 0 0, Value.int IntKind.i64 0, Value.int IntKind.i64 0, Value.int IntKind.i64 0, Value.bool false, Value.int IntKind.i64 0, Value.int IntKind.u64 0, Value.int IntKind.u64 0, Value.int IntKind.u64 0, Value.int IntKind.u64 0, Value.int IntKind.u64 0, Value.int IntKind.u64 0, Value.int IntKind.u64 0, Value.int IntKind.u64 0, Value.int IntKind.u64 0, Value.int IntKind.u64 0, Value.int IntKind.u64 0, Value.int IntKind.u64 0, Value.slice none 0 0] 33) = W2 at *
  generalize W1.heap.size = B5 at *
  have HC := Lib.hid (eget_h HH.out b (l, false) 1 (by decide) (by decide) W2 HM2.out.1)
  rw [E0.out] at HC
  go_wp2_with (go_at_call 38; refine HC.out.mono ?_; rintro e W3 ⟨rfl, hs, ht⟩; refine Hid.out ?_)
  have HM3 := Lib.hid (HM2.out.step hs ht)
  clear hs ht HC HM2 
  refine Lib.hid ?_
  go_wp2_with (refine storeCell rfl 3 _ _ rfl B5 0 (.int .i64 6) rfl rfl rfl (HM3.out.2.2.1.there (by rw [gca_size]; decide)) infoInt ?_; refine Hid.out ?_)
  have HM4 := Lib.hid (HM3.out.cell (j := 0) (v := .int .i64 6) (g0_kind 6))
  clear HM3
  generalize W3.setCell ⟨B5, 0, none⟩ (.int .i64 6) = W4 at *
  refine Lib.hid ?_
  have HC := Lib.hid (eget_h HH.out b x1 4 (by decide) (by decide) W4 HM4.out.1)
  rw [E1.out] at HC
  go_wp2_with (go_at_call 38; refine HC.out.mono ?_; rintro e W5 ⟨rfl, hs, ht⟩; refine Hid.out ?_)
  have HM5 := Lib.hid (HM4.out.step hs ht)
  clear hs ht HC HM4 
  refine Lib.hid ?_
  go_wp2_with (refine storeCell rfl 3 _ _ rfl B5 1 (.int .i64 t) rfl rfl rfl (HM5.out.2.2.1.there (by rw [gca_size]; decide)) infoInt ?_; refine Hid.out ?_)
  have HM6 := Lib.hid (HM5.out.cell (j := 1) (v := .int .i64 t) (g0_txn 6 t))
  clear HM5
  generalize W5.setCell ⟨B5, 1, none⟩ (.int .i64 t) = W6 at *
  refine Lib.hid ?_
  have kk : W6.cell? ⟨B5, 0, none⟩ = some (.int .i64 6) := HM6.out.2.2.1.cellsG.kind
  have HC := Lib.hid (eget_h HH.out b x2 1 (by decide) (by decide) W6 HM6.out.1)
  rw [E2.out] at HC
  go_wp2_with (go_at_call 38; refine HC.out.mono ?_; rintro e W7 ⟨rfl, hs, ht⟩; refine Hid.out ?_)
  have HM7 := Lib.hid (HM6.out.step hs ht)
  clear hs ht HC HM6 kk
  refine Lib.hid ?_
  go_wp2_with (refine storeCell rfl 22 _ _ rfl B5 2 (.int .i64 n1) rfl rfl rfl (HM7.out.2.2.1.there (by rw [gca_size]; decide)) infoErr ?_; refine Hid.out ?_)
  have HM8 := Lib.hid (HM7.out.cell (j := 2) (v := .int .i64 n1) (g2Err 6 t n1))
  clear HM7
  generalize W7.setCell ⟨B5, 2, none⟩ (.int .i64 n1) = W8 at *
  refine Lib.hid ?_
  have HBd := Lib.hid (show w.heap.size < w.heap.size + 1 by omega)
  have HO := Lib.hid (show OwnG (w.heap.size + 1) (⟨6, t, n1, zMm, 0, zHd, none, 0, 0, []⟩) W8 from ⟨KOwns.nil _ _, OwnRs.nil _ _⟩)
  have HU := Lib.hid (show (⟨6, t, n1, zMm, 0, zHd, none, 0, 0, []⟩ : Gm).u = ⟨6, t, n1, zMu, 0, zHd, []⟩ from rfl)
  generalize (⟨6, t, n1, zMm, 0, zHd, none, 0, 0, []⟩ : Gm) = G at *
  generalize (⟨6, t, n1, zMu, 0, zHd, []⟩ : Ms) = M at *
  have HD := Lib.hid HDW.out.2
  have HWm := Lib.hid HDW.out.1
  clear HDW
  have k1 := HM8.out.1.short
  cases sh
  rotate_left
  · have HE := Lib.hid (HD.out.1 rfl)
    go_wp2_with (refine wpList_store_row rfl 33 _ _ rfl w.heap.size #[Value.int IntKind.i64 0, Value.int IntKind.i64 0, Value.int IntKind.i64 0, Value.int IntKind.i64 0, Value.int IntKind.u64 0, Value.int IntKind.u64 0, Value.int IntKind.u64 0, Value.int IntKind.u64 0, Value.int IntKind.u64 0, Value.int IntKind.u64 0, Value.int IntKind.u64 0, Value.int IntKind.u64 0, Value.int IntKind.u64 0, Value.int IntKind.u64 0, Value.int IntKind.u64 0, Value.int IntKind.u64 0, Value.int IntKind.u64 0, Value.int IntKind.u64 0, Value.int IntKind.u64 0, Value.int IntKind.u64 0, Value.int IntKind.u64 0, Value.int IntKind.u64 0, Value.int IntKind.u64 0, Value.int IntKind.u64 0, Value.int IntKind.u64 0, Value.int IntKind.u64 0, Value.int IntKind.u64 0, Value.int IntKind.u64 0, Value.int IntKind.i64 0, Value.slice none 0 0, Value.int IntKind.i64 0, Value.int IntKind.i64 0, Value.int IntKind.i64 0, Value.bool false, Value.int IntKind.i64 0, Value.int IntKind.u64 0, Value.int IntKind.u64 0, Value.int IntKind.u64 0, Value.int IntKind.u64 0, Value.int IntKind.u64 0, Value.int IntKind.u64 0, Value.int IntKind.u64 0, Value.int IntKind.u64 0, Value.int IntKind.u64 0, Value.int IntKind.u64 0, Value.int IntKind.u64 0, Value.int IntKind.u64 0, Value.slice none 0 0] rfl rfl 33 _ HM8.out.2.1 (by kernel_rfl) rfl (by simp [Value.oneCell']) ?_)
    refine bodyPost_ret (v := .tuple #[.agg (gca zGm), .int .i64 8]) ?_ rfl ⟨zGm, by rw [HE.out.1], by rw [HE.out.2]; rfl, zGm_in _, below_setRow HM8.out.1.kept (Nat.le_refl _) _⟩
    exact res_twoG Tryd.results19 (cs := gca zGm) rfl rfl (by rw [← zGca]; exact HM8.out.2.1.rset _) (gca_size _)
  obtain ⟨j, hj1, hj2, hj3⟩ := HM8.out.1.at
  rw [← HN.out] at hj2 hj3
  by_cases hjn : j = n
  rotate_left
  · have HE := Lib.hid (HD.out.2.2 rfl (fun q => hjn (hj3.1 q.2.1)))
    have hne : ((j : Int) == (n : Int)) = false := by rw [beq_eq_false_iff_ne]; omega
    have hne1 : ((j : Int) != (n : Int)) = true := by rw [bne_iff_ne]; omega
    clear hjn hj2 hj3
    go_wp2_with (refine wpList_store_row rfl 33 _ _ rfl w.heap.size #[Value.int IntKind.i64 0, Value.int IntKind.i64 0, Value.int IntKind.i64 0, Value.int IntKind.i64 0, Value.int IntKind.u64 0, Value.int IntKind.u64 0, Value.int IntKind.u64 0, Value.int IntKind.u64 0, Value.int IntKind.u64 0, Value.int IntKind.u64 0, Value.int IntKind.u64 0, Value.int IntKind.u64 0, Value.int IntKind.u64 0, Value.int IntKind.u64 0, Value.int IntKind.u64 0, Value.int IntKind.u64 0, Value.int IntKind.u64 0, Value.int IntKind.u64 0, Value.int IntKind.u64 0, Value.int IntKind.u64 0, Value.int IntKind.u64 0, Value.int IntKind.u64 0, Value.int IntKind.u64 0, Value.int IntKind.u64 0, Value.int IntKind.u64 0, Value.int IntKind.u64 0, Value.int IntKind.u64 0, Value.int IntKind.u64 0, Value.int IntKind.i64 0, Value.slice none 0 0, Value.int IntKind.i64 0, Value.int IntKind.i64 0, Value.int IntKind.i64 0, Value.bool false, Value.int IntKind.i64 0, Value.int IntKind.u64 0, Value.int IntKind.u64 0, Value.int IntKind.u64 0, Value.int IntKind.u64 0, Value.int IntKind.u64 0, Value.int IntKind.u64 0, Value.int IntKind.u64 0, Value.int IntKind.u64 0, Value.int IntKind.u64 0, Value.int IntKind.u64 0, Value.int IntKind.u64 0, Value.int IntKind.u64 0, Value.slice none 0 0] rfl rfl 33 _ HM8.out.2.1 (by kernel_rfl) rfl (by simp [Value.oneCell']) ?_)
    refine bodyPost_ret (v := .tuple #[.agg (gca zGm), .int .i64 2]) ?_ rfl ⟨zGm, by rw [HE.out.1], by rw [HE.out.2]; rfl, zGm_in _, below_setRow HM8.out.1.kept (Nat.le_refl _) _⟩
    exact res_twoG Tryd.results19 (cs := gca zGm) rfl rfl (by rw [← zGca]; exact HM8.out.2.1.rset _) (gca_size _)
  have HZ := Lib.hid (hj3.2 hjn)
  clear hj2 hj3
  subst hjn
  have heq0 : ((j : Int) == (j : Int)) = true := by simp
  have heq1 : ((j : Int) != (j : Int)) = false := by simp
  have HC := Lib.hid (rmsg_any G (by rw [HU.out]; exact HWm.out) W8 HO.out.inG)
  rw [HU.out] at HC
  by_cases hsn : sndMs M = true
  rotate_left
  · have HE := Lib.hid (HD.out.2.2 rfl (fun q => hsn q.2.2))
    rw [eq_false_of_ne_true hsn] at HC
    go_wp2_with (first
      | (refine loadRowG rfl 33 _ rfl B5 rfl 33 (gca G) (0, 0) HM8.out.2.2.1 Tryd.underlying33 rfl (by rw [gca_size]; exact infoG) ?_)
      | (go_at_call 13; refine HC.out.mono ?_; rintro e Wv ⟨rfl, hv⟩; refine Hid.out ?_))
    have HMv := Lib.hid (HM8.out.below hv)
    clear hv HM8 HO HC hj1 k1
    refine Lib.hid ?_
    go_wp2_with (refine wpList_store_row rfl 33 _ _ rfl w.heap.size #[Value.int IntKind.i64 0, Value.int IntKind.i64 0, Value.int IntKind.i64 0, Value.int IntKind.i64 0, Value.int IntKind.u64 0, Value.int IntKind.u64 0, Value.int IntKind.u64 0, Value.int IntKind.u64 0, Value.int IntKind.u64 0, Value.int IntKind.u64 0, Value.int IntKind.u64 0, Value.int IntKind.u64 0, Value.int IntKind.u64 0, Value.int IntKind.u64 0, Value.int IntKind.u64 0, Value.int IntKind.u64 0, Value.int IntKind.u64 0, Value.int IntKind.u64 0, Value.int IntKind.u64 0, Value.int IntKind.u64 0, Value.int IntKind.u64 0, Value.int IntKind.u64 0, Value.int IntKind.u64 0, Value.int IntKind.u64 0, Value.int IntKind.u64 0, Value.int IntKind.u64 0, Value.int IntKind.u64 0, Value.int IntKind.u64 0, Value.int IntKind.i64 0, Value.slice none 0 0, Value.int IntKind.i64 0, Value.int IntKind.i64 0, Value.int IntKind.i64 0, Value.bool false, Value.int IntKind.i64 0, Value.int IntKind.u64 0, Value.int IntKind.u64 0, Value.int IntKind.u64 0, Value.int IntKind.u64 0, Value.int IntKind.u64 0, Value.int IntKind.u64 0, Value.int IntKind.u64 0, Value.int IntKind.u64 0, Value.int IntKind.u64 0, Value.int IntKind.u64 0, Value.int IntKind.u64 0, Value.int IntKind.u64 0, Value.slice none 0 0] rfl rfl 33 _ HMv.out.2.1 (by kernel_rfl) rfl (by simp [Value.oneCell']) ?_)
    refine bodyPost_ret (v := .tuple #[.agg (gca zGm), .int .i64 2]) ?_ rfl ⟨zGm, by rw [HE.out.1], by rw [HE.out.2]; rfl, zGm_in _, below_setRow HMv.out.1.kept (Nat.le_refl _) _⟩
    exact res_twoG Tryd.results19 (cs := gca zGm) rfl rfl (by rw [← zGca]; exact HMv.out.2.1.rset _) (gca_size _)
  have HE := Lib.hid (HD.out.2.1 rfl ⟨by first | rfl | trivial, HZ.out, hsn⟩)
  rw [hsn] at HC
  go_wp2_with (first
    | (refine loadRowG rfl 33 _ rfl B5 rfl 33 (gca G) (0, 0) HM8.out.2.2.1 Tryd.underlying33 rfl (by rw [gca_size]; exact infoG) ?_)
    | (go_at_call 13; refine HC.out.mono ?_; rintro e Wv ⟨rfl, hv⟩; refine Hid.out ?_))
  have HMv := Lib.hid (HM8.out.below hv)
  have HOv := Lib.hid (HO.out.below hv)
  clear hv HM8 HO HC hj1 k1
  refine Lib.hid ?_
  go_wp2_with (first
    | (refine wpList_load_row rfl 33 _ rfl B5 rfl 33 (gca G) (0, 0) _ HMv.out.2.2.1 Tryd.underlying33 rfl (by rw [gca_size]; exact infoG) ?_)
    | (refine wpList_store_row rfl 33 _ _ rfl w.heap.size (gca G) rfl rfl 33 _ HMv.out.2.1 (by kernel_rfl) rfl (gca_one _) ?_))
  refine bodyPost_ret (v := .tuple #[.agg (gca G), .int .i64 0]) ?_ rfl ⟨G, by rw [HE.out.1], by rw [HE.out.2]; exact HU.out, (HOv.out.rset HBd.out).inG, below_setRow HMv.out.1.kept (Nat.le_refl _) _⟩
  exact res_twoG Tryd.results19 (cs := gca G) rfl rfl (HMv.out.2.1.rset _) (gca_size _)
end Go.Proofs.YtndgbgolmpoepaaDoor

/-
  The reference's Decode: a packet.
-/
namespace Go.Proofs.YtndgbgolmpoepaaDoor
set_option maxRecDepth 20000
open Go.RowKit

set_option maxRecDepth 100000 in
set_option maxHeartbeats 16000000 in
theorem rdec_8 {p : Option Addr} {c : Nat} {l : List Int} (w : World) (hh : EyH w p c l) {k t : Int} {x1 x2 : Sta} (h0 : gN 1 (l, false) = (k, x1)) (h1 : gN 4 x1 = (t, x2)) (hk : k = 8) :
    Calls Tryd.prog 19 #[.slice p l.length c] w (DecRet w (decE l) (decV l)) := by
  obtain ⟨n, hn⟩ : ∃ n, n = l.length := ⟨_, rfl⟩
  have HH := Lib.hid hh
  have HN := Lib.hid hn
  have hb0 : ByL l := hh.byte
  have rk := gN_rng4 h0 (by decide) hb0
  have b1 := gN_byte1 h0 hb0
  have rt := gN_rng4 h1 (by decide) b1
  have b2 := gN_byte1 h1 b1
  have hpart := gMs_parts chkR h0 h1
  subst hk
  obtain ⟨⟨n1, x3⟩, h2⟩ : ∃ y, gN 1 x2 = y := ⟨_, rfl⟩
  obtain ⟨⟨a, ⟨z, sh⟩⟩, h3⟩ : ∃ y, gNs (List.replicate 12 8) x3 = y := ⟨_, rfl⟩
  have hg : gNs headS x2 = (n1 :: a, (z, sh)) := by
    unfold headS
    rw [gNs, h2]
    simp only
    rw [h3]
  have hX : gMs chkR (l, false) = (((⟨8, t, 0, zMu, n1, headOf (n1 :: a) 1, []⟩ : Ms), false), (z, sh)) := by
    rw [hpart]
    show (((⟨8, t, 0, zMu, nthI (gNs headS x2).1 0, headOf (gNs headS x2).1 1, []⟩ : Ms), false), (gNs headS x2).2) = _
    rw [hg]
    rfl
  have r2 := gN_rng4 h2 (by decide) b2
  have r20 := r2.1
  have r21 := r2.2
  have w2 := wrap_small r2.1 r2.2
  have E2 := Lib.hid h2
  have E3 := Lib.hid h3
  clear r2 h2 h3 hg
  obtain ⟨es, hes⟩ : ∃ es, es = decE l := ⟨_, rfl⟩
  obtain ⟨V, hV⟩ : ∃ V, V = decV l := ⟨_, rfl⟩
  have HDW := Lib.hid (dec_refW hb0 hX)
  rw [← hes, ← hV] at HDW ⊢
  clear hes hV
  have HX := Lib.hid hX
  have E0 := Lib.hid h0
  have E1 := Lib.hid h1
  have rk0 := rk.1
  have rk1 := rk.2
  have rt0 := rt.1
  have rt1 := rt.2
  have wk := wrap_small rk.1 rk.2
  have wt := wrap_small rt.1 rt.2
  clear rk rt b1 b2 hpart hX h0 h1 hb0
  rw [← hn]
  clear hn hh
  have HSP := Lib.hid (Below.refl w.heap.size w)
  go_enter Tryd.func19, Tryd.ntmps19
  go_upto_region 1 with fail
  have R0 := Lib.hid (Blk.new w #[Value.int IntKind.i64 0, Value.int IntKind.i64 0, Value.int IntKind.i64 0, Value.int IntKind.i64 0, Value.int IntKind.u64 0, Value.int IntKind.u64 0, Value.int IntKind.u64 0, Value.int IntKind.u64 0, Value.int IntKind.u64 0, Value.int IntKind.u64 0, Value.int IntKind.u64 0, Value.int IntKind.u64 0, Value.int IntKind.u64 0, Value.int IntKind.u64 0, Value.int IntKind.u64 0, Value.int IntKind.u64 0, Value.int IntKind.u64 0, Value.int IntKind.u64 0, Value.int IntKind.u64 0, Value.int IntKind.u64 0, Value.int IntKind.u64 0, Value.int IntKind.u64 0, Value.int IntKind.u64 0, Value.int IntKind.u64 0, Value.int IntKind.u64 0, Value.int IntKind.u64 0, Value.int IntKind.u64 0, Value.int IntKind.u64 0, Value.int IntKind.i64 0, Value.slice none 0 0, Value.int IntKind.i64 0, Value.int IntKind.i64 0, Value.int IntKind.i64 0, Value.bool false, Value.int IntKind.i64 0, Value.int IntKind.u64 0, Value.int IntKind.u64 0, Value.int IntKind.u64 0, Value.int IntKind.u64 0, Value.int IntKind.u64 0, Value.int IntKind.u64 0, Value.int IntKind.u64 0, Value.int IntKind.u64 0, Value.int IntKind.u64 0, Value.int IntKind.u64 0, Value.int IntKind.u64 0, Value.int IntKind.u64 0, Value.slice none 0 0] 33)
  have K0 := Lib.hid (below1 w (.cells #[Value.int IntKind.i64 0, Value.int IntKind.i64 0, Value.int IntKind.i64 0, Value.int IntKind.i64 0, Value.int IntKind.u64 0, Value.int IntKind.u64 0, Value.int IntKind.u64 0, Value.int IntKind.u64 0, Value.int IntKind.u64 0, Value.int IntKind.u64 0, Value.int IntKind.u64 0, Value.int IntKind.u64 0, Value.int IntKind.u64 0, Value.int IntKind.u64 0, Value.int IntKind.u64 0, Value.int IntKind.u64 0, Value.int IntKind.u64 0, Value.int IntKind.u64 0, Value.int IntKind.u64 0, Value.int IntKind.u64 0, Value.int IntKind.u64 0, Value.int IntKind.u64 0, Value.int IntKind.u64 0, Value.int IntKind.u64 0, Value.int IntKind.u64 0, Value.int IntKind.u64 0, Value.int IntKind.u64 0, Value.int IntKind.u64 0, Value.int IntKind.i64 0, Value.slice none 0 0, Value.int IntKind.i64 0, Value.int IntKind.i64 0, Value.int IntKind.i64 0, Value.bool false, Value.int IntKind.i64 0, Value.int IntKind.u64 0, Value.int IntKind.u64 0, Value.int IntKind.u64 0, Value.int IntKind.u64 0, Value.int IntKind.u64 0, Value.int IntKind.u64 0, Value.int IntKind.u64 0, Value.int IntKind.u64 0, Value.int IntKind.u64 0, Value.int IntKind.u64 0, Value.int IntKind.u64 0, Value.int IntKind.u64 0, Value.slice none 0 0] 33))
  generalize hw : w.alloc (.cells #[Value.int IntKind.i64 0, Value.int IntKind.i64 0, Value.int IntKind.i64 0, Value.int IntKind.i64 0, Value.int IntKind.u64 0, Value.int IntKind.u64 0, Value.int IntKind.u64 0, Value.int IntKind.u64 0, Value.int IntKind.u64 0, Value.int IntKind.u64 0, Value.int IntKind.u64 0, Value.int IntKind.u64 0, Value.int IntKind.u64 0, Value.int IntKind.u64 0, Value.int IntKind.u64 0, Value.int IntKind.u64 0, Value.int IntKind.u64 0, Value.int IntKind.u64 0, Value.int IntKind.u64 0, Value.int IntKind.u64 0, Value.int IntKind.u64 0, Value.int IntKind.u64 0, Value.int IntKind.u64 0, Value.int IntKind.u64 0, Value.int IntKind.u64 0, Value.int IntKind.u64 0, Value.int IntKind.u64 0, Value.int IntKind.u64 0, Value.int IntKind.i64 0, Value.slice none 0 0, Value.int IntKind.i64 0, Value.int IntKind.i64 0, Value.int IntKind.i64 0, Value.bool false, Value.int IntKind.i64 0, Value.int IntKind.u64 0, Value.int IntKind.u64 0, Value.int IntKind.u64 0, Value.int IntKind.u64 0, Value.int IntKind.u64 0, Value.int IntKind.u64 0, Value.int IntKind.u64 0, Value.int IntKind.u64 0, Value.int IntKind.u64 0, Value.int IntKind.u64 0, Value.int IntKind.u64 0, Value.int IntKind.u64 0, Value.slice none 0 0] 33) = W0 at *
  clear hw
  go_upto_region 2 with fail
  have HS1 := Lib.hid (show EyS w W0.heap.size p c l (l, false) (W0.alloc (.cells #[.slice p n c, .int .i64 0, .bool false] 76)) from ⟨0, false, by rw [← HN.out]; exact Blk.new _ _ _, Nat.zero_le _, rfl, K0.out.trans ((below1 _ _).mono K0.out.size), K0.out.size⟩)
  have R1 := Lib.hid (R0.out.old (.cells #[.slice p n c, .int .i64 0, .bool false] 76))
  have HNe := Lib.hid (show w.heap.size < W0.heap.size from R0.out.lt)
  clear R0 K0 HSP
  generalize W0.alloc (.cells #[.slice p n c, .int .i64 0, .bool false] 76) = W1 at *
  generalize W0.heap.size = b at *
  go_upto_region 3 with fail
  have HM2 := Lib.hid (show DgS p c l w b W1.heap.size zGm (l, false) (W1.alloc (.cells #[Value.int IntKind.i64 0, Value.int IntKind.i64 0, Value.int IntKind.i64 0, Value.int IntKind.i64 0, Value.int IntKind.u64 0, Value.int IntKind.u64 0, Value.int IntKind.u64 0, Value.int IntKind.u64 0, Value.int IntKind.u64 0, Value.int IntKind.u64 0, Value.int IntKind.u64 0, Value.int IntKind.u64 0, Value.int IntKind.u64 0, Value.int IntKind.u64 0, Value.int IntKind.u64 0, Value.int IntKind.u64 0, Value.int IntKind.u64 0, Value.int IntKind.u64 0, Value.int IntKind.u64 0, Value.int IntKind.u64 0, Value.int IntKind.u64 0, Value.int IntKind.u64 0, Value.int IntKind.u64 0, Value.int IntKind.u64 0, Value.int IntKind.u64 0, Value.int IntKind.u64 0, Value.int IntKind.u64 0, Value.int IntKind.u64 0, Value.int IntKind.i64 0, Value.slice none 0 0, Value.int IntKind.i64 0, Value.int IntKind.i64 0, Value.int IntKind.i64 0, Value.bool false, Value.int IntKind.i64 0, Value.int IntKind.u64 0, Value.int IntKind.u64 0, Value.int IntKind.u64 0, Value.int IntKind.u64 0, Value.int IntKind.u64 0, Value.int IntKind.u64 0, Value.int IntKind.u64 0, Value.int IntKind.u64 0, Value.int IntKind.u64 0, Value.int IntKind.u64 0, Value.int IntKind.u64 0, Value.int IntKind.u64 0, Value.slice none 0 0] 33)) from ⟨HS1.out.alloc _, R1.out.old _, by rw [← zGca]; exact Blk.new _ _ _, HNe.out, HS1.out.lt⟩)
  clear HS1 R1 HNe
  generalize W1.alloc (.cells #[Value.int IntKind.i64 0, Value.int IntKind.i64 0, Value.int IntKind.i64 0, Value.int IntKind.i64 0, Value.int IntKind.u64 0, Value.int IntKind.u64 0, Value.int IntKind.u64 0, Value.int IntKind.u64 0, Value.int IntKind.u64 0, Value.int IntKind.u64 0, Value.int IntKind.u64 0, Value.int IntKind.u64 0, Value.int IntKind.u64 0, Value.int IntKind.u64 0, Value.int IntKind.u64 0, Value.int IntKind.u64 0, Value.int IntKind.u64 0, Value.int IntKind.u64 0, Value.int IntKind.u64 0, Value.int IntKind.u64 0, Value.int IntKind.u64 0, Value.int IntKind.u64 0, Value.int IntKind.u64 0, Value.int IntKind.u64 0, Value.int IntKind.u64 0, Value.int IntKind.u64 0, Value.int IntKind.u64 0, Value.int IntKind.u64 0, Value.int IntKind.i64 0, Value.slice none 0 0, Value.int IntKind.i64 0, Value.int IntKind.i64 0, Value.int IntKind.i64 0, Value.bool false, Value.int IntKind.i64 0, Value.int IntKind.u64 0, Value.int IntKind.u64 0, Value.int IntKind.u64 0, Value.int IntKind.u64 0, Value.int IntKind.u64 0, Value.int IntKind.u64 0, Value.int IntKind.u64 0, Value.int IntKind.u64 0, Value.int IntKind.u64 0, Value.int IntKind.u64 0, Value.int IntKind.u64 0, Value.int IntKind.u64 0, Value.slice none 0 0] 33) = W2 at *
  generalize W1.heap.size = B5 at *
  have HC := Lib.hid (eget_h HH.out b (l, false) 1 (by decide) (by decide) W2 HM2.out.1)
  rw [E0.out] at HC
  go_wp2_with (go_at_call 38; refine HC.out.mono ?_; rintro e W3 ⟨rfl, hs, ht⟩; refine Hid.out ?_)
  have HM3 := Lib.hid (HM2.out.step hs ht)
  clear hs ht HC HM2 
  refine Lib.hid ?_
  go_wp2_with (refine storeCell rfl 3 _ _ rfl B5 0 (.int .i64 8) rfl rfl rfl (HM3.out.2.2.1.there (by rw [gca_size]; decide)) infoInt ?_; refine Hid.out ?_)
  have HM4 := Lib.hid (HM3.out.cell (j := 0) (v := .int .i64 8) (g0_kind 8))
  clear HM3
  generalize W3.setCell ⟨B5, 0, none⟩ (.int .i64 8) = W4 at *
  refine Lib.hid ?_
  have HC := Lib.hid (eget_h HH.out b x1 4 (by decide) (by decide) W4 HM4.out.1)
  rw [E1.out] at HC
  go_wp2_with (go_at_call 38; refine HC.out.mono ?_; rintro e W5 ⟨rfl, hs, ht⟩; refine Hid.out ?_)
  have HM5 := Lib.hid (HM4.out.step hs ht)
  clear hs ht HC HM4 
  refine Lib.hid ?_
  go_wp2_with (refine storeCell rfl 3 _ _ rfl B5 1 (.int .i64 t) rfl rfl rfl (HM5.out.2.2.1.there (by rw [gca_size]; decide)) infoInt ?_; refine Hid.out ?_)
  have HM6 := Lib.hid (HM5.out.cell (j := 1) (v := .int .i64 t) (g0_txn 8 t))
  clear HM5
  generalize W5.setCell ⟨B5, 1, none⟩ (.int .i64 t) = W6 at *
  refine Lib.hid ?_
  have kk : W6.cell? ⟨B5, 0, none⟩ = some (.int .i64 8) := HM6.out.2.2.1.cellsG.kind
  have HC := Lib.hid (eget_h HH.out b x2 1 (by decide) (by decide) W6 HM6.out.1)
  rw [E2.out] at HC
  go_wp2_with (go_at_call 38; refine HC.out.mono ?_; rintro e W7 ⟨rfl, hs, ht⟩; refine Hid.out ?_)
  have HM7 := Lib.hid (HM6.out.step hs ht)
  clear hs ht HC HM6 kk
  refine Lib.hid ?_
  go_wp2_with (refine storeCell rfl 3 _ _ rfl B5 34 (.int .i64 n1) rfl rfl rfl (HM7.out.2.2.1.there (by rw [gca_size]; decide)) infoInt ?_; refine Hid.out ?_)
  have HM8 := Lib.hid (HM7.out.cell (j := 34) (v := .int .i64 n1) (g2Port 8 t n1))
  clear HM7
  generalize W7.setCell ⟨B5, 34, none⟩ (.int .i64 n1) = W8 at *
  refine Lib.hid ?_
  have HC := Lib.hid (ehead_any HH.out b x3 W8 HM8.out.1)
  rw [E3.out] at HC
  go_wp2_with (go_at_call 39; refine HC.out.mono ?_; rintro e W9 ⟨rfl, hs, ht⟩; refine Hid.out ?_)
  have HM9 := Lib.hid (HM8.out.step hs ht)
  clear hs ht HC HM8
  refine Lib.hid ?_
  go_wp2_with (refine wpList_store_mid rfl 25 _ _ rfl B5 35 (hc (nthI a)) rfl rfl (HM9.out.2.2.1.there (by rw [gca_size, hc_size]; decide)) infoHead (hc_one _) ?_; refine Hid.out ?_)
  have HM10 := Lib.hid (HM9.out.mid (j := 35) (vs := (hc (nthI a)).toList) ((show stM (gca ⟨8, t, 0, zMm, n1, zHd, none, 0, 0, []⟩) 35 (hl (nthI a)) = gca ⟨8, t, 0, zMm, n1, headOf (n1 :: a) 1, none, 0, 0, []⟩ by rw [hl_headOf n1 a]; exact g2Head 8 t n1 _)))
  clear HM9
  generalize W9.setCells B5 35 (hc (nthI a)).toList = W10 at *
  refine Lib.hid ?_
  have HBd := Lib.hid (show w.heap.size < w.heap.size + 1 by omega)
  have HO := Lib.hid (show OwnG (w.heap.size + 1) (⟨8, t, 0, zMm, n1, headOf (n1 :: a) 1, none, 0, 0, []⟩) W10 from ⟨KOwns.nil _ _, OwnRs.nil _ _⟩)
  have HU := Lib.hid (show (⟨8, t, 0, zMm, n1, headOf (n1 :: a) 1, none, 0, 0, []⟩ : Gm).u = ⟨8, t, 0, zMu, n1, headOf (n1 :: a) 1, []⟩ from rfl)
  generalize (⟨8, t, 0, zMm, n1, headOf (n1 :: a) 1, none, 0, 0, []⟩ : Gm) = G at *
  generalize (⟨8, t, 0, zMu, n1, headOf (n1 :: a) 1, []⟩ : Ms) = M at *
  have HD := Lib.hid HDW.out.2
  have HWm := Lib.hid HDW.out.1
  clear HDW
  have k1 := HM10.out.1.short
  cases sh
  rotate_left
  · have HE := Lib.hid (HD.out.1 rfl)
    go_wp2_with (refine wpList_store_row rfl 33 _ _ rfl w.heap.size #[Value.int IntKind.i64 0, Value.int IntKind.i64 0, Value.int IntKind.i64 0, Value.int IntKind.i64 0, Value.int IntKind.u64 0, Value.int IntKind.u64 0, Value.int IntKind.u64 0, Value.int IntKind.u64 0, Value.int IntKind.u64 0, Value.int IntKind.u64 0, Value.int IntKind.u64 0, Value.int IntKind.u64 0, Value.int IntKind.u64 0, Value.int IntKind.u64 0, Value.int IntKind.u64 0, Value.int IntKind.u64 0, Value.int IntKind.u64 0, Value.int IntKind.u64 0, Value.int IntKind.u64 0, Value.int IntKind.u64 0, Value.int IntKind.u64 0, Value.int IntKind.u64 0, Value.int IntKind.u64 0, Value.int IntKind.u64 0, Value.int IntKind.u64 0, Value.int IntKind.u64 0, Value.int IntKind.u64 0, Value.int IntKind.u64 0, Value.int IntKind.i64 0, Value.slice none 0 0, Value.int IntKind.i64 0, Value.int IntKind.i64 0, Value.int IntKind.i64 0, Value.bool false, Value.int IntKind.i64 0, Value.int IntKind.u64 0, Value.int IntKind.u64 0, Value.int IntKind.u64 0, Value.int IntKind.u64 0, Value.int IntKind.u64 0, Value.int IntKind.u64 0, Value.int IntKind.u64 0, Value.int IntKind.u64 0, Value.int IntKind.u64 0, Value.int IntKind.u64 0, Value.int IntKind.u64 0, Value.int IntKind.u64 0, Value.slice none 0 0] rfl rfl 33 _ HM10.out.2.1 (by kernel_rfl) rfl (by simp [Value.oneCell']) ?_)
    refine bodyPost_ret (v := .tuple #[.agg (gca zGm), .int .i64 8]) ?_ rfl ⟨zGm, by rw [HE.out.1], by rw [HE.out.2]; rfl, zGm_in _, below_setRow HM10.out.1.kept (Nat.le_refl _) _⟩
    exact res_twoG Tryd.results19 (cs := gca zGm) rfl rfl (by rw [← zGca]; exact HM10.out.2.1.rset _) (gca_size _)
  obtain ⟨j, hj1, hj2, hj3⟩ := HM10.out.1.at
  rw [← HN.out] at hj2 hj3
  by_cases hjn : j = n
  rotate_left
  · have HE := Lib.hid (HD.out.2.2 rfl (fun q => hjn (hj3.1 q.2.1)))
    have hne : ((j : Int) == (n : Int)) = false := by rw [beq_eq_false_iff_ne]; omega
    have hne1 : ((j : Int) != (n : Int)) = true := by rw [bne_iff_ne]; omega
    clear hjn hj2 hj3
    go_wp2_with (refine wpList_store_row rfl 33 _ _ rfl w.heap.size #[Value.int IntKind.i64 0, Value.int IntKind.i64 0, Value.int IntKind.i64 0, Value.int IntKind.i64 0, Value.int IntKind.u64 0, Value.int IntKind.u64 0, Value.int IntKind.u64 0, Value.int IntKind.u64 0, Value.int IntKind.u64 0, Value.int IntKind.u64 0, Value.int IntKind.u64 0, Value.int IntKind.u64 0, Value.int IntKind.u64 0, Value.int IntKind.u64 0, Value.int IntKind.u64 0, Value.int IntKind.u64 0, Value.int IntKind.u64 0, Value.int IntKind.u64 0, Value.int IntKind.u64 0, Value.int IntKind.u64 0, Value.int IntKind.u64 0, Value.int IntKind.u64 0, Value.int IntKind.u64 0, Value.int IntKind.u64 0, Value.int IntKind.u64 0, Value.int IntKind.u64 0, Value.int IntKind.u64 0, Value.int IntKind.u64 0, Value.int IntKind.i64 0, Value.slice none 0 0, Value.int IntKind.i64 0, Value.int IntKind.i64 0, Value.int IntKind.i64 0, Value.bool false, Value.int IntKind.i64 0, Value.int IntKind.u64 0, Value.int IntKind.u64 0, Value.int IntKind.u64 0, Value.int IntKind.u64 0, Value.int IntKind.u64 0, Value.int IntKind.u64 0, Value.int IntKind.u64 0, Value.int IntKind.u64 0, Value.int IntKind.u64 0, Value.int IntKind.u64 0, Value.int IntKind.u64 0, Value.int IntKind.u64 0, Value.slice none 0 0] rfl rfl 33 _ HM10.out.2.1 (by kernel_rfl) rfl (by simp [Value.oneCell']) ?_)
    refine bodyPost_ret (v := .tuple #[.agg (gca zGm), .int .i64 2]) ?_ rfl ⟨zGm, by rw [HE.out.1], by rw [HE.out.2]; rfl, zGm_in _, below_setRow HM10.out.1.kept (Nat.le_refl _) _⟩
    exact res_twoG Tryd.results19 (cs := gca zGm) rfl rfl (by rw [← zGca]; exact HM10.out.2.1.rset _) (gca_size _)
  have HZ := Lib.hid (hj3.2 hjn)
  clear hj2 hj3
  subst hjn
  have heq0 : ((j : Int) == (j : Int)) = true := by simp
  have heq1 : ((j : Int) != (j : Int)) = false := by simp
  have HC := Lib.hid (rmsg_any G (by rw [HU.out]; exact HWm.out) W10 HO.out.inG)
  rw [HU.out] at HC
  by_cases hsn : sndMs M = true
  rotate_left
  · have HE := Lib.hid (HD.out.2.2 rfl (fun q => hsn q.2.2))
    rw [eq_false_of_ne_true hsn] at HC
    go_wp2_with (first
      | (refine loadRowG rfl 33 _ rfl B5 rfl 33 (gca G) (0, 0) HM10.out.2.2.1 Tryd.underlying33 rfl (by rw [gca_size]; exact infoG) ?_)
      | (go_at_call 13; refine HC.out.mono ?_; rintro e Wv ⟨rfl, hv⟩; refine Hid.out ?_))
    have HMv := Lib.hid (HM10.out.below hv)
    clear hv HM10 HO HC hj1 k1
    refine Lib.hid ?_
    go_wp2_with (refine wpList_store_row rfl 33 _ _ rfl w.heap.size #[Value.int IntKind.i64 0, Value.int IntKind.i64 0, Value.int IntKind.i64 0, Value.int IntKind.i64 0, Value.int IntKind.u64 0, Value.int IntKind.u64 0, Value.int IntKind.u64 0, Value.int IntKind.u64 0, Value.int IntKind.u64 0, Value.int IntKind.u64 0, Value.int IntKind.u64 0, Value.int IntKind.u64 0, Value.int IntKind.u64 0, Value.int IntKind.u64 0, Value.int IntKind.u64 0, Value.int IntKind.u64 0, Value.int IntKind.u64 0, Value.int IntKind.u64 0, Value.int IntKind.u64 0, Value.int IntKind.u64 0, Value.int IntKind.u64 0, Value.int IntKind.u64 0, Value.int IntKind.u64 0, Value.int IntKind.u64 0, Value.int IntKind.u64 0, Value.int IntKind.u64 0, Value.int IntKind.u64 0, Value.int IntKind.u64 0, Value.int IntKind.i64 0, Value.slice none 0 0, Value.int IntKind.i64 0, Value.int IntKind.i64 0, Value.int IntKind.i64 0, Value.bool false, Value.int IntKind.i64 0, Value.int IntKind.u64 0, Value.int IntKind.u64 0, Value.int IntKind.u64 0, Value.int IntKind.u64 0, Value.int IntKind.u64 0, Value.int IntKind.u64 0, Value.int IntKind.u64 0, Value.int IntKind.u64 0, Value.int IntKind.u64 0, Value.int IntKind.u64 0, Value.int IntKind.u64 0, Value.int IntKind.u64 0, Value.slice none 0 0] rfl rfl 33 _ HMv.out.2.1 (by kernel_rfl) rfl (by simp [Value.oneCell']) ?_)
    refine bodyPost_ret (v := .tuple #[.agg (gca zGm), .int .i64 2]) ?_ rfl ⟨zGm, by rw [HE.out.1], by rw [HE.out.2]; rfl, zGm_in _, below_setRow HMv.out.1.kept (Nat.le_refl _) _⟩
    exact res_twoG Tryd.results19 (cs := gca zGm) rfl rfl (by rw [← zGca]; exact HMv.out.2.1.rset _) (gca_size _)
  have HE := Lib.hid (HD.out.2.1 rfl ⟨by first | rfl | trivial, HZ.out, hsn⟩)
  rw [hsn] at HC
  go_wp2_with (first
    | (refine loadRowG rfl 33 _ rfl B5 rfl 33 (gca G) (0, 0) HM10.out.2.2.1 Tryd.underlying33 rfl (by rw [gca_size]; exact infoG) ?_)
    | (go_at_call 13; refine HC.out.mono ?_; rintro e Wv ⟨rfl, hv⟩; refine Hid.out ?_))
  have HMv := Lib.hid (HM10.out.below hv)
  have HOv := Lib.hid (HO.out.below hv)
  clear hv HM10 HO HC hj1 k1
  refine Lib.hid ?_
  go_wp2_with (first
    | (refine wpList_load_row rfl 33 _ rfl B5 rfl 33 (gca G) (0, 0) _ HMv.out.2.2.1 Tryd.underlying33 rfl (by rw [gca_size]; exact infoG) ?_)
    | (refine wpList_store_row rfl 33 _ _ rfl w.heap.size (gca G) rfl rfl 33 _ HMv.out.2.1 (by kernel_rfl) rfl (gca_one _) ?_))
  refine bodyPost_ret (v := .tuple #[.agg (gca G), .int .i64 0]) ?_ rfl ⟨G, by rw [HE.out.1], by rw [HE.out.2]; exact HU.out, (HOv.out.rset HBd.out).inG, below_setRow HMv.out.1.kept (Nat.le_refl _) _⟩
  exact res_twoG Tryd.results19 (cs := gca G) rfl rfl (HMv.out.2.1.rset _) (gca_size _)
end Go.Proofs.YtndgbgolmpoepaaDoor

/-
  The reference's Decode: a change.
-/
namespace Go.Proofs.YtndgbgolmpoepaaDoor
set_option maxRecDepth 20000
open Go.RowKit

set_option maxRecDepth 100000 in
set_option maxHeartbeats 16000000 in
theorem rdec_1 {p : Option Addr} {c : Nat} {l : List Int} (w : World) (hh : EyH w p c l) {k t : Int} {x1 x2 : Sta} (h0 : gN 1 (l, false) = (k, x1)) (h1 : gN 4 x1 = (t, x2)) (hk : k = 1) :
    Calls Tryd.prog 19 #[.slice p l.length c] w (DecRet w (decE l) (decV l)) := by
  obtain ⟨n, hn⟩ : ∃ n, n = l.length := ⟨_, rfl⟩
  have HH := Lib.hid hh
  have HN := Lib.hid hn
  have hb0 : ByL l := hh.byte
  have rk := gN_rng4 h0 (by decide) hb0
  have b1 := gN_byte1 h0 hb0
  have rt := gN_rng4 h1 (by decide) b1
  have b2 := gN_byte1 h1 b1
  have hpart := gMs_parts chkR h0 h1
  subst hk
  obtain ⟨⟨kd, x3⟩, h2⟩ : ∃ y, gN 1 x2 = y := ⟨_, rfl⟩
  obtain ⟨⟨a, x4⟩, h3⟩ : ∃ y, gNs (List.replicate 12 8) x3 = y := ⟨_, rfl⟩
  obtain ⟨⟨d, x5⟩, h4⟩ : ∃ y, gNs (List.replicate 12 8) x4 = y := ⟨_, rfl⟩
  obtain ⟨⟨pr, x6⟩, h5⟩ : ∃ y, gN 2 x5 = y := ⟨_, rfl⟩
  obtain ⟨⟨i, x7⟩, h6⟩ : ∃ y, gN 4 x6 = y := ⟨_, rfl⟩
  obtain ⟨⟨h, x8⟩, h7⟩ : ∃ y, gN 4 x7 = y := ⟨_, rfl⟩
  obtain ⟨⟨o, x9⟩, h8⟩ : ∃ y, gN 1 x8 = y := ⟨_, rfl⟩
  obtain ⟨⟨q, x10⟩, h9⟩ : ∃ y, gN 1 x9 = y := ⟨_, rfl⟩
  obtain ⟨⟨ac, ⟨z, sh⟩⟩, h10⟩ : ∃ y, gActs x10 = y := ⟨_, rfl⟩
  obtain ⟨hc1, hc2⟩ := two_heads h3 h4
  have hX : gMs chkR (l, false) = (((⟨1, t, 0, ⟨kd, cubeOf (a ++ d) 0, pr, ac, i, h, o, chkR q⟩, 0, zHd, []⟩ : Ms), decide (1 < q)), (z, sh)) := by
    rw [hpart]
    show (((⟨1, t, 0, (gMod chkR x2).1.1, 0, zHd, []⟩ : Ms), (gMod chkR x2).1.2), (gMod chkR x2).2) = _
    rw [gMod_parts chkR x2 h2 hc1 h5 h6 h7 h8 h9 h10]
  have r2 := gN_rng4 h2 (by decide) b2
  have r20 := r2.1
  have r21 := r2.2
  have w2 := wrap_small r2.1 r2.2
  have b3 := gN_byte1 h2 b2
  have b4 := gNs_byte1 h3 b3
  have b5 := gNs_byte1 h4 b4
  have r5 := gN_rng4 h5 (by decide) b5
  have r50 := r5.1
  have r51 := r5.2
  have w5 := wrap_small r5.1 r5.2
  have b6 := gN_byte1 h5 b5
  have r6 := gN_rng4 h6 (by decide) b6
  have r60 := r6.1
  have r61 := r6.2
  have w6 := wrap_small r6.1 r6.2
  have b7 := gN_byte1 h6 b6
  have r7 := gN_rng4 h7 (by decide) b7
  have r70 := r7.1
  have r71 := r7.2
  have w7 := wrap_small r7.1 r7.2
  have b8 := gN_byte1 h7 b7
  have r8 := gN_rng4 h8 (by decide) b8
  have r80 := r8.1
  have r81 := r8.2
  have w8 := wrap_small r8.1 r8.2
  have b9 := gN_byte1 h8 b8
  have r9 := gN_rng4 h9 (by decide) b9
  have r90 := r9.1
  have r91 := r9.2
  have w9 := wrap_small r9.1 r9.2
  have b10 := gN_byte1 h9 b9
  have E2 := Lib.hid h2
  have E3 := Lib.hid h3
  have E4 := Lib.hid h4
  have E5 := Lib.hid h5
  have E6 := Lib.hid h6
  have E7 := Lib.hid h7
  have E8 := Lib.hid h8
  have E9 := Lib.hid h9
  have E10 := Lib.hid h10
  have HJ := Lib.hid hc2
  clear hc1 hc2 r2 b3 b4 b5 r5 b6 r6 b7 r7 b8 r8 b9 r9 b10 h2 h3 h4 h5 h6 h7 h8 h9 h10
  obtain ⟨es, hes⟩ : ∃ es, es = decE l := ⟨_, rfl⟩
  obtain ⟨V, hV⟩ : ∃ V, V = decV l := ⟨_, rfl⟩
  have HDW := Lib.hid (dec_refW hb0 hX)
  rw [← hes, ← hV] at HDW ⊢
  clear hes hV
  have HX := Lib.hid hX
  have E0 := Lib.hid h0
  have E1 := Lib.hid h1
  have rk0 := rk.1
  have rk1 := rk.2
  have rt0 := rt.1
  have rt1 := rt.2
  have wk := wrap_small rk.1 rk.2
  have wt := wrap_small rt.1 rt.2
  clear rk rt b1 b2 hpart hX h0 h1 hb0
  rw [← hn]
  clear hn hh
  have HSP := Lib.hid (Below.refl w.heap.size w)
  go_enter Tryd.func19, Tryd.ntmps19
  go_upto_region 1 with fail
  have R0 := Lib.hid (Blk.new w #[Value.int IntKind.i64 0, Value.int IntKind.i64 0, Value.int IntKind.i64 0, Value.int IntKind.i64 0, Value.int IntKind.u64 0, Value.int IntKind.u64 0, Value.int IntKind.u64 0, Value.int IntKind.u64 0, Value.int IntKind.u64 0, Value.int IntKind.u64 0, Value.int IntKind.u64 0, Value.int IntKind.u64 0, Value.int IntKind.u64 0, Value.int IntKind.u64 0, Value.int IntKind.u64 0, Value.int IntKind.u64 0, Value.int IntKind.u64 0, Value.int IntKind.u64 0, Value.int IntKind.u64 0, Value.int IntKind.u64 0, Value.int IntKind.u64 0, Value.int IntKind.u64 0, Value.int IntKind.u64 0, Value.int IntKind.u64 0, Value.int IntKind.u64 0, Value.int IntKind.u64 0, Value.int IntKind.u64 0, Value.int IntKind.u64 0, Value.int IntKind.i64 0, Value.slice none 0 0, Value.int IntKind.i64 0, Value.int IntKind.i64 0, Value.int IntKind.i64 0, Value.bool false, Value.int IntKind.i64 0, Value.int IntKind.u64 0, Value.int IntKind.u64 0, Value.int IntKind.u64 0, Value.int IntKind.u64 0, Value.int IntKind.u64 0, Value.int IntKind.u64 0, Value.int IntKind.u64 0, Value.int IntKind.u64 0, Value.int IntKind.u64 0, Value.int IntKind.u64 0, Value.int IntKind.u64 0, Value.int IntKind.u64 0, Value.slice none 0 0] 33)
  have K0 := Lib.hid (below1 w (.cells #[Value.int IntKind.i64 0, Value.int IntKind.i64 0, Value.int IntKind.i64 0, Value.int IntKind.i64 0, Value.int IntKind.u64 0, Value.int IntKind.u64 0, Value.int IntKind.u64 0, Value.int IntKind.u64 0, Value.int IntKind.u64 0, Value.int IntKind.u64 0, Value.int IntKind.u64 0, Value.int IntKind.u64 0, Value.int IntKind.u64 0, Value.int IntKind.u64 0, Value.int IntKind.u64 0, Value.int IntKind.u64 0, Value.int IntKind.u64 0, Value.int IntKind.u64 0, Value.int IntKind.u64 0, Value.int IntKind.u64 0, Value.int IntKind.u64 0, Value.int IntKind.u64 0, Value.int IntKind.u64 0, Value.int IntKind.u64 0, Value.int IntKind.u64 0, Value.int IntKind.u64 0, Value.int IntKind.u64 0, Value.int IntKind.u64 0, Value.int IntKind.i64 0, Value.slice none 0 0, Value.int IntKind.i64 0, Value.int IntKind.i64 0, Value.int IntKind.i64 0, Value.bool false, Value.int IntKind.i64 0, Value.int IntKind.u64 0, Value.int IntKind.u64 0, Value.int IntKind.u64 0, Value.int IntKind.u64 0, Value.int IntKind.u64 0, Value.int IntKind.u64 0, Value.int IntKind.u64 0, Value.int IntKind.u64 0, Value.int IntKind.u64 0, Value.int IntKind.u64 0, Value.int IntKind.u64 0, Value.int IntKind.u64 0, Value.slice none 0 0] 33))
  generalize hw : w.alloc (.cells #[Value.int IntKind.i64 0, Value.int IntKind.i64 0, Value.int IntKind.i64 0, Value.int IntKind.i64 0, Value.int IntKind.u64 0, Value.int IntKind.u64 0, Value.int IntKind.u64 0, Value.int IntKind.u64 0, Value.int IntKind.u64 0, Value.int IntKind.u64 0, Value.int IntKind.u64 0, Value.int IntKind.u64 0, Value.int IntKind.u64 0, Value.int IntKind.u64 0, Value.int IntKind.u64 0, Value.int IntKind.u64 0, Value.int IntKind.u64 0, Value.int IntKind.u64 0, Value.int IntKind.u64 0, Value.int IntKind.u64 0, Value.int IntKind.u64 0, Value.int IntKind.u64 0, Value.int IntKind.u64 0, Value.int IntKind.u64 0, Value.int IntKind.u64 0, Value.int IntKind.u64 0, Value.int IntKind.u64 0, Value.int IntKind.u64 0, Value.int IntKind.i64 0, Value.slice none 0 0, Value.int IntKind.i64 0, Value.int IntKind.i64 0, Value.int IntKind.i64 0, Value.bool false, Value.int IntKind.i64 0, Value.int IntKind.u64 0, Value.int IntKind.u64 0, Value.int IntKind.u64 0, Value.int IntKind.u64 0, Value.int IntKind.u64 0, Value.int IntKind.u64 0, Value.int IntKind.u64 0, Value.int IntKind.u64 0, Value.int IntKind.u64 0, Value.int IntKind.u64 0, Value.int IntKind.u64 0, Value.int IntKind.u64 0, Value.slice none 0 0] 33) = W0 at *
  clear hw
  go_upto_region 2 with fail
  have HS1 := Lib.hid (show EyS w W0.heap.size p c l (l, false) (W0.alloc (.cells #[.slice p n c, .int .i64 0, .bool false] 76)) from ⟨0, false, by rw [← HN.out]; exact Blk.new _ _ _, Nat.zero_le _, rfl, K0.out.trans ((below1 _ _).mono K0.out.size), K0.out.size⟩)
  have R1 := Lib.hid (R0.out.old (.cells #[.slice p n c, .int .i64 0, .bool false] 76))
  have HNe := Lib.hid (show w.heap.size < W0.heap.size from R0.out.lt)
  clear R0 K0 HSP
  generalize W0.alloc (.cells #[.slice p n c, .int .i64 0, .bool false] 76) = W1 at *
  generalize W0.heap.size = b at *
  go_upto_region 3 with fail
  have HM2 := Lib.hid (show DgS p c l w b W1.heap.size zGm (l, false) (W1.alloc (.cells #[Value.int IntKind.i64 0, Value.int IntKind.i64 0, Value.int IntKind.i64 0, Value.int IntKind.i64 0, Value.int IntKind.u64 0, Value.int IntKind.u64 0, Value.int IntKind.u64 0, Value.int IntKind.u64 0, Value.int IntKind.u64 0, Value.int IntKind.u64 0, Value.int IntKind.u64 0, Value.int IntKind.u64 0, Value.int IntKind.u64 0, Value.int IntKind.u64 0, Value.int IntKind.u64 0, Value.int IntKind.u64 0, Value.int IntKind.u64 0, Value.int IntKind.u64 0, Value.int IntKind.u64 0, Value.int IntKind.u64 0, Value.int IntKind.u64 0, Value.int IntKind.u64 0, Value.int IntKind.u64 0, Value.int IntKind.u64 0, Value.int IntKind.u64 0, Value.int IntKind.u64 0, Value.int IntKind.u64 0, Value.int IntKind.u64 0, Value.int IntKind.i64 0, Value.slice none 0 0, Value.int IntKind.i64 0, Value.int IntKind.i64 0, Value.int IntKind.i64 0, Value.bool false, Value.int IntKind.i64 0, Value.int IntKind.u64 0, Value.int IntKind.u64 0, Value.int IntKind.u64 0, Value.int IntKind.u64 0, Value.int IntKind.u64 0, Value.int IntKind.u64 0, Value.int IntKind.u64 0, Value.int IntKind.u64 0, Value.int IntKind.u64 0, Value.int IntKind.u64 0, Value.int IntKind.u64 0, Value.int IntKind.u64 0, Value.slice none 0 0] 33)) from ⟨HS1.out.alloc _, R1.out.old _, by rw [← zGca]; exact Blk.new _ _ _, HNe.out, HS1.out.lt⟩)
  clear HS1 R1 HNe
  generalize W1.alloc (.cells #[Value.int IntKind.i64 0, Value.int IntKind.i64 0, Value.int IntKind.i64 0, Value.int IntKind.i64 0, Value.int IntKind.u64 0, Value.int IntKind.u64 0, Value.int IntKind.u64 0, Value.int IntKind.u64 0, Value.int IntKind.u64 0, Value.int IntKind.u64 0, Value.int IntKind.u64 0, Value.int IntKind.u64 0, Value.int IntKind.u64 0, Value.int IntKind.u64 0, Value.int IntKind.u64 0, Value.int IntKind.u64 0, Value.int IntKind.u64 0, Value.int IntKind.u64 0, Value.int IntKind.u64 0, Value.int IntKind.u64 0, Value.int IntKind.u64 0, Value.int IntKind.u64 0, Value.int IntKind.u64 0, Value.int IntKind.u64 0, Value.int IntKind.u64 0, Value.int IntKind.u64 0, Value.int IntKind.u64 0, Value.int IntKind.u64 0, Value.int IntKind.i64 0, Value.slice none 0 0, Value.int IntKind.i64 0, Value.int IntKind.i64 0, Value.int IntKind.i64 0, Value.bool false, Value.int IntKind.i64 0, Value.int IntKind.u64 0, Value.int IntKind.u64 0, Value.int IntKind.u64 0, Value.int IntKind.u64 0, Value.int IntKind.u64 0, Value.int IntKind.u64 0, Value.int IntKind.u64 0, Value.int IntKind.u64 0, Value.int IntKind.u64 0, Value.int IntKind.u64 0, Value.int IntKind.u64 0, Value.int IntKind.u64 0, Value.slice none 0 0] 33) = W2 at *
  generalize W1.heap.size = B5 at *
  have HC := Lib.hid (eget_h HH.out b (l, false) 1 (by decide) (by decide) W2 HM2.out.1)
  rw [E0.out] at HC
  go_wp2_with (go_at_call 38; refine HC.out.mono ?_; rintro e W3 ⟨rfl, hs, ht⟩; refine Hid.out ?_)
  have HM3 := Lib.hid (HM2.out.step hs ht)
  clear hs ht HC HM2 
  refine Lib.hid ?_
  go_wp2_with (refine storeCell rfl 3 _ _ rfl B5 0 (.int .i64 1) rfl rfl rfl (HM3.out.2.2.1.there (by rw [gca_size]; decide)) infoInt ?_; refine Hid.out ?_)
  have HM4 := Lib.hid (HM3.out.cell (j := 0) (v := .int .i64 1) (g0_kind 1))
  clear HM3
  generalize W3.setCell ⟨B5, 0, none⟩ (.int .i64 1) = W4 at *
  refine Lib.hid ?_
  have HC := Lib.hid (eget_h HH.out b x1 4 (by decide) (by decide) W4 HM4.out.1)
  rw [E1.out] at HC
  go_wp2_with (go_at_call 38; refine HC.out.mono ?_; rintro e W5 ⟨rfl, hs, ht⟩; refine Hid.out ?_)
  have HM5 := Lib.hid (HM4.out.step hs ht)
  clear hs ht HC HM4 
  refine Lib.hid ?_
  go_wp2_with (refine storeCell rfl 3 _ _ rfl B5 1 (.int .i64 t) rfl rfl rfl (HM5.out.2.2.1.there (by rw [gca_size]; decide)) infoInt ?_; refine Hid.out ?_)
  have HM6 := Lib.hid (HM5.out.cell (j := 1) (v := .int .i64 t) (g0_txn 1 t))
  clear HM5
  generalize W5.setCell ⟨B5, 1, none⟩ (.int .i64 t) = W6 at *
  refine Lib.hid ?_
  have kk : W6.cell? ⟨B5, 0, none⟩ = some (.int .i64 1) := HM6.out.2.2.1.cellsG.kind
  have HM6x := Lib.hid (show DgS p c l w b B5 (gm1 t 0 (fun _ => 0) 0 0 0 0 false none 0 0 []) x2 W6 from HM6.out)
  clear HM6
  have HC := Lib.hid (eget_h HH.out b x2 1 (by decide) (by decide) W6 HM6x.out.1)
  rw [E2.out] at HC
  go_wp2_with (go_at_call 38; refine HC.out.mono ?_; rintro e W7 ⟨rfl, hs, ht⟩; refine Hid.out ?_)
  have HM7 := Lib.hid (HM6x.out.step hs ht)
  clear hs ht HC HM6x kk
  refine Lib.hid ?_
  go_wp2_with (refine storeCell rfl 3 _ _ rfl B5 3 (.int .i64 kd) rfl rfl rfl (HM7.out.2.2.1.there (by rw [gca_size]; decide)) infoInt ?_; refine Hid.out ?_)
  have HM8 := Lib.hid (HM7.out.cell (j := 3) (v := .int .i64 kd) (gm1_kind kd))
  clear HM7
  generalize W7.setCell ⟨B5, 3, none⟩ (.int .i64 kd) = W8 at *
  refine Lib.hid ?_
  have HC := Lib.hid (ehead_any HH.out b x3 W8 HM8.out.1)
  rw [E3.out] at HC
  go_wp2_with (go_at_call 39; refine HC.out.mono ?_; rintro e W9 ⟨rfl, hs, ht⟩; refine Hid.out ?_)
  have HM9 := Lib.hid (HM8.out.step hs ht)
  clear hs ht HC HM8
  refine Lib.hid ?_
  go_wp2_with (refine wpList_store_mid rfl 25 _ _ rfl B5 4 (hc (nthI a)) rfl rfl (HM9.out.2.2.1.there (by rw [gca_size, hc_size]; decide)) infoHead (hc_one _) ?_; refine Hid.out ?_)
  have HM10 := Lib.hid (HM9.out.mid (j := 4) (vs := (hc (nthI a)).toList) (gm1_value (nthI a)))
  clear HM9
  generalize W9.setCells B5 4 (hc (nthI a)).toList = W10 at *
  refine Lib.hid ?_
  have HC := Lib.hid (ehead_any HH.out b x4 W10 HM10.out.1)
  rw [E4.out] at HC
  go_wp2_with (go_at_call 39; refine HC.out.mono ?_; rintro e W11 ⟨rfl, hs, ht⟩; refine Hid.out ?_)
  have HM11 := Lib.hid (HM10.out.step hs ht)
  clear hs ht HC HM10
  refine Lib.hid ?_
  go_wp2_with (refine wpList_store_mid rfl 25 _ _ rfl B5 16 (hc (nthI d)) rfl rfl (HM11.out.2.2.1.there (by rw [gca_size, hc_size]; decide)) infoHead (hc_one _) ?_; refine Hid.out ?_)
  have HM12 := Lib.hid (HM11.out.mid (j := 16) (vs := (hc (nthI d)).toList) (gm1_care (nthI d)))
  clear HM11
  generalize W11.setCells B5 16 (hc (nthI d)).toList = W12 at *
  refine Lib.hid ?_
  rw [HJ.out] at HM12
  have HC := Lib.hid (eget_h HH.out b x5 2 (by decide) (by decide) W12 HM12.out.1)
  rw [E5.out] at HC
  go_wp2_with (go_at_call 38; refine HC.out.mono ?_; rintro e W13 ⟨rfl, hs, ht⟩; refine Hid.out ?_)
  have HM13 := Lib.hid (HM12.out.step hs ht)
  clear hs ht HC HM12 
  refine Lib.hid ?_
  go_wp2_with (refine storeCell rfl 3 _ _ rfl B5 28 (.int .i64 pr) rfl rfl rfl (HM13.out.2.2.1.there (by rw [gca_size]; decide)) infoInt ?_; refine Hid.out ?_)
  have HM14 := Lib.hid (HM13.out.cell (j := 28) (v := .int .i64 pr) (gm1_prio pr))
  clear HM13
  generalize W13.setCell ⟨B5, 28, none⟩ (.int .i64 pr) = W14 at *
  refine Lib.hid ?_
  have HC := Lib.hid (eget_h HH.out b x6 4 (by decide) (by decide) W14 HM14.out.1)
  rw [E6.out] at HC
  go_wp2_with (go_at_call 38; refine HC.out.mono ?_; rintro e W15 ⟨rfl, hs, ht⟩; refine Hid.out ?_)
  have HM15 := Lib.hid (HM14.out.step hs ht)
  clear hs ht HC HM14 
  refine Lib.hid ?_
  go_wp2_with (refine storeCell rfl 3 _ _ rfl B5 30 (.int .i64 i) rfl rfl rfl (HM15.out.2.2.1.there (by rw [gca_size]; decide)) infoInt ?_; refine Hid.out ?_)
  have HM16 := Lib.hid (HM15.out.cell (j := 30) (v := .int .i64 i) (gm1_idle i))
  clear HM15
  generalize W15.setCell ⟨B5, 30, none⟩ (.int .i64 i) = W16 at *
  refine Lib.hid ?_
  have HC := Lib.hid (eget_h HH.out b x7 4 (by decide) (by decide) W16 HM16.out.1)
  rw [E7.out] at HC
  go_wp2_with (go_at_call 38; refine HC.out.mono ?_; rintro e W17 ⟨rfl, hs, ht⟩; refine Hid.out ?_)
  have HM17 := Lib.hid (HM16.out.step hs ht)
  clear hs ht HC HM16 
  refine Lib.hid ?_
  go_wp2_with (refine storeCell rfl 3 _ _ rfl B5 31 (.int .i64 h) rfl rfl rfl (HM17.out.2.2.1.there (by rw [gca_size]; decide)) infoInt ?_; refine Hid.out ?_)
  have HM18 := Lib.hid (HM17.out.cell (j := 31) (v := .int .i64 h) (gm1_hard h))
  clear HM17
  generalize W17.setCell ⟨B5, 31, none⟩ (.int .i64 h) = W18 at *
  refine Lib.hid ?_
  have HC := Lib.hid (eget_h HH.out b x8 1 (by decide) (by decide) W18 HM18.out.1)
  rw [E8.out] at HC
  go_wp2_with (go_at_call 38; refine HC.out.mono ?_; rintro e W19 ⟨rfl, hs, ht⟩; refine Hid.out ?_)
  have HM19 := Lib.hid (HM18.out.step hs ht)
  clear hs ht HC HM18 
  refine Lib.hid ?_
  go_wp2_with (refine storeCell rfl 3 _ _ rfl B5 32 (.int .i64 o) rfl rfl rfl (HM19.out.2.2.1.there (by rw [gca_size]; decide)) infoInt ?_; refine Hid.out ?_)
  have HM20 := Lib.hid (HM19.out.cell (j := 32) (v := .int .i64 o) (gm1_owner o))
  clear HM19
  generalize W19.setCell ⟨B5, 32, none⟩ (.int .i64 o) = W20 at *
  refine Lib.hid ?_
  have HC := Lib.hid (eget_h HH.out b x9 1 (by decide) (by decide) W20 HM20.out.1)
  rw [E9.out] at HC
  go_wp2_with (go_at_call 38; refine HC.out.mono ?_; rintro e W21 ⟨rfl, hs, ht⟩; refine Hid.out ?_)
  have HM21 := Lib.hid (HM20.out.step hs ht)
  clear hs ht HC HM20 
  refine Lib.hid ?_
  have hqf : (q == 1) = chkR q := rfl
  go_wp2_with (refine storeCell rfl 4 _ _ rfl B5 33 (.bool (q == 1)) rfl rfl rfl (HM21.out.2.2.1.there (by rw [gca_size]; decide)) infoBo ?_; refine Hid.out ?_)
  have HM22 := Lib.hid (HM21.out.cell (j := 33) (v := .bool (q == 1)) (gm1_check (q == 1)))
  clear HM21
  generalize W21.setCell ⟨B5, 33, none⟩ (.bool (q == 1)) = W22 at *
  refine Lib.hid ?_
  have HC := Lib.hid (eacts_read HH.out b x10 W22 HM22.out.1)
  rw [E10.out] at HC
  have HB5 := Lib.hid (show B5 < W22.heap.size from HM22.out.2.2.1.lt)
  go_wp2_with (go_at_call 40; refine HC.out.mono ?_; rintro e W23 ⟨v, rfl, ho, hs, ht⟩; refine Hid.out ?_)
  obtain ⟨qa, ca, rfl⟩ := ho.form
  have HOa := Lib.hid ho
  have HM23 := Lib.hid (HM22.out.step hs ht)
  clear ho hs ht HC HM22
  refine Lib.hid ?_
  go_wp2_with (refine storeCell rfl 28 _ _ rfl B5 29 (.slice qa ac.length ca) rfl rfl rfl (HM23.out.2.2.1.there (by rw [gca_size]; decide)) infoActs ?_; refine Hid.out ?_)
  have HM24 := Lib.hid (HM23.out.cell (j := 29) (v := .slice qa ac.length ca) (gm1_acts qa ac.length ca ac))
  have HOb := Lib.hid (HOa.out.cset (g := B5) (k := 29) (x := .slice qa ac.length ca) HB5.out)
  clear HOa
  clear HM23
  generalize W23.setCell ⟨B5, 29, none⟩ (.slice qa ac.length ca) = W24 at *
  refine Lib.hid ?_
  have HBd := Lib.hid (show w.heap.size < W22.heap.size by have := HB5.out; have := HM24.out.2.2.2; omega)
  have HO := Lib.hid (show OwnG W22.heap.size (gm1 t kd (cubeOf (a ++ d) 0) pr i h o (q == 1) qa ac.length ca ac) W24 from ⟨HOb.out, OwnRs.nil _ _⟩)
  have HU := Lib.hid (show (gm1 t kd (cubeOf (a ++ d) 0) pr i h o (q == 1) qa ac.length ca ac : Gm).u = ⟨1, t, 0, ⟨kd, cubeOf (a ++ d) 0, pr, ac, i, h, o, chkR q⟩, 0, zHd, []⟩ from rfl)
  clear HOb HB5
  generalize (gm1 t kd (cubeOf (a ++ d) 0) pr i h o (q == 1) qa ac.length ca ac : Gm) = G at *
  generalize (⟨1, t, 0, ⟨kd, cubeOf (a ++ d) 0, pr, ac, i, h, o, chkR q⟩, 0, zHd, []⟩ : Ms) = M at *
  generalize decide (1 < q) = od at *
  have HD := Lib.hid HDW.out.2
  have HWm := Lib.hid HDW.out.1
  clear HDW
  have k1 := HM24.out.1.short
  cases sh
  rotate_left
  · have HE := Lib.hid (HD.out.1 rfl)
    go_wp2_with (refine wpList_store_row rfl 33 _ _ rfl w.heap.size #[Value.int IntKind.i64 0, Value.int IntKind.i64 0, Value.int IntKind.i64 0, Value.int IntKind.i64 0, Value.int IntKind.u64 0, Value.int IntKind.u64 0, Value.int IntKind.u64 0, Value.int IntKind.u64 0, Value.int IntKind.u64 0, Value.int IntKind.u64 0, Value.int IntKind.u64 0, Value.int IntKind.u64 0, Value.int IntKind.u64 0, Value.int IntKind.u64 0, Value.int IntKind.u64 0, Value.int IntKind.u64 0, Value.int IntKind.u64 0, Value.int IntKind.u64 0, Value.int IntKind.u64 0, Value.int IntKind.u64 0, Value.int IntKind.u64 0, Value.int IntKind.u64 0, Value.int IntKind.u64 0, Value.int IntKind.u64 0, Value.int IntKind.u64 0, Value.int IntKind.u64 0, Value.int IntKind.u64 0, Value.int IntKind.u64 0, Value.int IntKind.i64 0, Value.slice none 0 0, Value.int IntKind.i64 0, Value.int IntKind.i64 0, Value.int IntKind.i64 0, Value.bool false, Value.int IntKind.i64 0, Value.int IntKind.u64 0, Value.int IntKind.u64 0, Value.int IntKind.u64 0, Value.int IntKind.u64 0, Value.int IntKind.u64 0, Value.int IntKind.u64 0, Value.int IntKind.u64 0, Value.int IntKind.u64 0, Value.int IntKind.u64 0, Value.int IntKind.u64 0, Value.int IntKind.u64 0, Value.int IntKind.u64 0, Value.slice none 0 0] rfl rfl 33 _ HM24.out.2.1 (by kernel_rfl) rfl (by simp [Value.oneCell']) ?_)
    refine bodyPost_ret (v := .tuple #[.agg (gca zGm), .int .i64 8]) ?_ rfl ⟨zGm, by rw [HE.out.1], by rw [HE.out.2]; rfl, zGm_in _, below_setRow HM24.out.1.kept (Nat.le_refl _) _⟩
    exact res_twoG Tryd.results19 (cs := gca zGm) rfl rfl (by rw [← zGca]; exact HM24.out.2.1.rset _) (gca_size _)
  obtain ⟨j, hj1, hj2, hj3⟩ := HM24.out.1.at
  rw [← HN.out] at hj2 hj3
  cases od
  rotate_left
  · have HE := Lib.hid (HD.out.2.2 rfl (fun q => by have := q.1; simp at this))
    clear hj1 hj2 hj3
    go_wp2_with (refine wpList_store_row rfl 33 _ _ rfl w.heap.size #[Value.int IntKind.i64 0, Value.int IntKind.i64 0, Value.int IntKind.i64 0, Value.int IntKind.i64 0, Value.int IntKind.u64 0, Value.int IntKind.u64 0, Value.int IntKind.u64 0, Value.int IntKind.u64 0, Value.int IntKind.u64 0, Value.int IntKind.u64 0, Value.int IntKind.u64 0, Value.int IntKind.u64 0, Value.int IntKind.u64 0, Value.int IntKind.u64 0, Value.int IntKind.u64 0, Value.int IntKind.u64 0, Value.int IntKind.u64 0, Value.int IntKind.u64 0, Value.int IntKind.u64 0, Value.int IntKind.u64 0, Value.int IntKind.u64 0, Value.int IntKind.u64 0, Value.int IntKind.u64 0, Value.int IntKind.u64 0, Value.int IntKind.u64 0, Value.int IntKind.u64 0, Value.int IntKind.u64 0, Value.int IntKind.u64 0, Value.int IntKind.i64 0, Value.slice none 0 0, Value.int IntKind.i64 0, Value.int IntKind.i64 0, Value.int IntKind.i64 0, Value.bool false, Value.int IntKind.i64 0, Value.int IntKind.u64 0, Value.int IntKind.u64 0, Value.int IntKind.u64 0, Value.int IntKind.u64 0, Value.int IntKind.u64 0, Value.int IntKind.u64 0, Value.int IntKind.u64 0, Value.int IntKind.u64 0, Value.int IntKind.u64 0, Value.int IntKind.u64 0, Value.int IntKind.u64 0, Value.int IntKind.u64 0, Value.slice none 0 0] rfl rfl 33 _ HM24.out.2.1 (by kernel_rfl) rfl (by simp [Value.oneCell']) ?_)
    refine bodyPost_ret (v := .tuple #[.agg (gca zGm), .int .i64 2]) ?_ rfl ⟨zGm, by rw [HE.out.1], by rw [HE.out.2]; rfl, zGm_in _, below_setRow HM24.out.1.kept (Nat.le_refl _) _⟩
    exact res_twoG Tryd.results19 (cs := gca zGm) rfl rfl (by rw [← zGca]; exact HM24.out.2.1.rset _) (gca_size _)
  by_cases hjn : j = n
  rotate_left
  · have HE := Lib.hid (HD.out.2.2 rfl (fun q => hjn (hj3.1 q.2.1)))
    have hne : ((j : Int) == (n : Int)) = false := by rw [beq_eq_false_iff_ne]; omega
    have hne1 : ((j : Int) != (n : Int)) = true := by rw [bne_iff_ne]; omega
    clear hjn hj2 hj3
    go_wp2_with (refine wpList_store_row rfl 33 _ _ rfl w.heap.size #[Value.int IntKind.i64 0, Value.int IntKind.i64 0, Value.int IntKind.i64 0, Value.int IntKind.i64 0, Value.int IntKind.u64 0, Value.int IntKind.u64 0, Value.int IntKind.u64 0, Value.int IntKind.u64 0, Value.int IntKind.u64 0, Value.int IntKind.u64 0, Value.int IntKind.u64 0, Value.int IntKind.u64 0, Value.int IntKind.u64 0, Value.int IntKind.u64 0, Value.int IntKind.u64 0, Value.int IntKind.u64 0, Value.int IntKind.u64 0, Value.int IntKind.u64 0, Value.int IntKind.u64 0, Value.int IntKind.u64 0, Value.int IntKind.u64 0, Value.int IntKind.u64 0, Value.int IntKind.u64 0, Value.int IntKind.u64 0, Value.int IntKind.u64 0, Value.int IntKind.u64 0, Value.int IntKind.u64 0, Value.int IntKind.u64 0, Value.int IntKind.i64 0, Value.slice none 0 0, Value.int IntKind.i64 0, Value.int IntKind.i64 0, Value.int IntKind.i64 0, Value.bool false, Value.int IntKind.i64 0, Value.int IntKind.u64 0, Value.int IntKind.u64 0, Value.int IntKind.u64 0, Value.int IntKind.u64 0, Value.int IntKind.u64 0, Value.int IntKind.u64 0, Value.int IntKind.u64 0, Value.int IntKind.u64 0, Value.int IntKind.u64 0, Value.int IntKind.u64 0, Value.int IntKind.u64 0, Value.int IntKind.u64 0, Value.slice none 0 0] rfl rfl 33 _ HM24.out.2.1 (by kernel_rfl) rfl (by simp [Value.oneCell']) ?_)
    refine bodyPost_ret (v := .tuple #[.agg (gca zGm), .int .i64 2]) ?_ rfl ⟨zGm, by rw [HE.out.1], by rw [HE.out.2]; rfl, zGm_in _, below_setRow HM24.out.1.kept (Nat.le_refl _) _⟩
    exact res_twoG Tryd.results19 (cs := gca zGm) rfl rfl (by rw [← zGca]; exact HM24.out.2.1.rset _) (gca_size _)
  have HZ := Lib.hid (hj3.2 hjn)
  clear hj2 hj3
  subst hjn
  have heq0 : ((j : Int) == (j : Int)) = true := by simp
  have heq1 : ((j : Int) != (j : Int)) = false := by simp
  have HC := Lib.hid (rmsg_any G (by rw [HU.out]; exact HWm.out) W24 HO.out.inG)
  rw [HU.out] at HC
  by_cases hsn : sndMs M = true
  rotate_left
  · have HE := Lib.hid (HD.out.2.2 rfl (fun q => hsn q.2.2))
    rw [eq_false_of_ne_true hsn] at HC
    go_wp2_with (first
      | (refine loadRowG rfl 33 _ rfl B5 rfl 33 (gca G) (0, 0) HM24.out.2.2.1 Tryd.underlying33 rfl (by rw [gca_size]; exact infoG) ?_)
      | (go_at_call 13; refine HC.out.mono ?_; rintro e Wv ⟨rfl, hv⟩; refine Hid.out ?_))
    have HMv := Lib.hid (HM24.out.below hv)
    clear hv HM24 HO HC hj1 k1
    refine Lib.hid ?_
    go_wp2_with (refine wpList_store_row rfl 33 _ _ rfl w.heap.size #[Value.int IntKind.i64 0, Value.int IntKind.i64 0, Value.int IntKind.i64 0, Value.int IntKind.i64 0, Value.int IntKind.u64 0, Value.int IntKind.u64 0, Value.int IntKind.u64 0, Value.int IntKind.u64 0, Value.int IntKind.u64 0, Value.int IntKind.u64 0, Value.int IntKind.u64 0, Value.int IntKind.u64 0, Value.int IntKind.u64 0, Value.int IntKind.u64 0, Value.int IntKind.u64 0, Value.int IntKind.u64 0, Value.int IntKind.u64 0, Value.int IntKind.u64 0, Value.int IntKind.u64 0, Value.int IntKind.u64 0, Value.int IntKind.u64 0, Value.int IntKind.u64 0, Value.int IntKind.u64 0, Value.int IntKind.u64 0, Value.int IntKind.u64 0, Value.int IntKind.u64 0, Value.int IntKind.u64 0, Value.int IntKind.u64 0, Value.int IntKind.i64 0, Value.slice none 0 0, Value.int IntKind.i64 0, Value.int IntKind.i64 0, Value.int IntKind.i64 0, Value.bool false, Value.int IntKind.i64 0, Value.int IntKind.u64 0, Value.int IntKind.u64 0, Value.int IntKind.u64 0, Value.int IntKind.u64 0, Value.int IntKind.u64 0, Value.int IntKind.u64 0, Value.int IntKind.u64 0, Value.int IntKind.u64 0, Value.int IntKind.u64 0, Value.int IntKind.u64 0, Value.int IntKind.u64 0, Value.int IntKind.u64 0, Value.slice none 0 0] rfl rfl 33 _ HMv.out.2.1 (by kernel_rfl) rfl (by simp [Value.oneCell']) ?_)
    refine bodyPost_ret (v := .tuple #[.agg (gca zGm), .int .i64 2]) ?_ rfl ⟨zGm, by rw [HE.out.1], by rw [HE.out.2]; rfl, zGm_in _, below_setRow HMv.out.1.kept (Nat.le_refl _) _⟩
    exact res_twoG Tryd.results19 (cs := gca zGm) rfl rfl (by rw [← zGca]; exact HMv.out.2.1.rset _) (gca_size _)
  have HE := Lib.hid (HD.out.2.1 rfl ⟨by first | rfl | trivial, HZ.out, hsn⟩)
  rw [hsn] at HC
  go_wp2_with (first
    | (refine loadRowG rfl 33 _ rfl B5 rfl 33 (gca G) (0, 0) HM24.out.2.2.1 Tryd.underlying33 rfl (by rw [gca_size]; exact infoG) ?_)
    | (go_at_call 13; refine HC.out.mono ?_; rintro e Wv ⟨rfl, hv⟩; refine Hid.out ?_))
  have HMv := Lib.hid (HM24.out.below hv)
  have HOv := Lib.hid (HO.out.below hv)
  clear hv HM24 HO HC hj1 k1
  refine Lib.hid ?_
  go_wp2_with (first
    | (refine wpList_load_row rfl 33 _ rfl B5 rfl 33 (gca G) (0, 0) _ HMv.out.2.2.1 Tryd.underlying33 rfl (by rw [gca_size]; exact infoG) ?_)
    | (refine wpList_store_row rfl 33 _ _ rfl w.heap.size (gca G) rfl rfl 33 _ HMv.out.2.1 (by kernel_rfl) rfl (gca_one _) ?_))
  refine bodyPost_ret (v := .tuple #[.agg (gca G), .int .i64 0]) ?_ rfl ⟨G, by rw [HE.out.1], by rw [HE.out.2]; exact HU.out, (HOv.out.rset HBd.out).inG, below_setRow HMv.out.1.kept (Nat.le_refl _) _⟩
  exact res_twoG Tryd.results19 (cs := gca G) rfl rfl (HMv.out.2.1.rset _) (gca_size _)
end Go.Proofs.YtndgbgolmpoepaaDoor

/-
  The reference's Decode: rules.
-/
namespace Go.Proofs.YtndgbgolmpoepaaDoor
set_option maxRecDepth 20000
open Go.RowKit

set_option maxRecDepth 100000 in
set_option maxHeartbeats 16000000 in
theorem rdec_9 {p : Option Addr} {c : Nat} {l : List Int} (w : World) (hh : EyH w p c l) {k t : Int} {x1 x2 : Sta} (h0 : gN 1 (l, false) = (k, x1)) (h1 : gN 4 x1 = (t, x2)) (hk : k = 9) :
    Calls Tryd.prog 19 #[.slice p l.length c] w (DecRet w (decE l) (decV l)) := by
  obtain ⟨n, hn⟩ : ∃ n, n = l.length := ⟨_, rfl⟩
  have HH := Lib.hid hh
  have HN := Lib.hid hn
  have hb0 : ByL l := hh.byte
  have rk := gN_rng4 h0 (by decide) hb0
  have b1 := gN_byte1 h0 hb0
  have rt := gN_rng4 h1 (by decide) b1
  have b2 := gN_byte1 h1 b1
  have hpart := gMs_parts chkR h0 h1
  subst hk
  obtain ⟨⟨N0, x3⟩, h2⟩ : ∃ y, gN 2 x2 = y := ⟨_, rfl⟩
  have r2 := gN_rng1 h2 b2
  rw [powB_2] at r2
  obtain ⟨N, rfl⟩ := Int.eq_ofNat_of_zero_le r2.1
  have hN : N ≤ 65535 := by have := r2.2; omega
  have hNI : (N : Int) ≤ 65535 := by omega
  have hN0 : (0 : Int) ≤ (N : Int) := by omega
  have w2 : IntKind.i64.wrap (N : Int) = (N : Int) := wrap_small (by omega) (by omega)
  obtain ⟨⟨us, ⟨z, sh⟩⟩, h3⟩ : ∃ y, gMany gRule N x3 = y := ⟨_, rfl⟩
  have hX : gMs chkR (l, false) = (((⟨9, t, 0, zMu, 0, zHd, us⟩ : Ms), false), (z, sh)) := by
    rw [hpart]
    show (((⟨9, t, 0, zMu, 0, zHd, (gRules x2).1⟩ : Ms), false), (gRules x2).2) = _
    unfold gRules
    rw [h2]
    simp only [Int.toNat_natCast]
    rw [h3]
  have E2 := Lib.hid h2
  have E3 := Lib.hid h3
  have b3 := gN_byte1 h2 b2
  clear r2 h2 h3 b3
  obtain ⟨es, hes⟩ : ∃ es, es = decE l := ⟨_, rfl⟩
  obtain ⟨V, hV⟩ : ∃ V, V = decV l := ⟨_, rfl⟩
  have HDW := Lib.hid (dec_refW hb0 hX)
  rw [← hes, ← hV] at HDW ⊢
  clear hes hV
  have HX := Lib.hid hX
  have E0 := Lib.hid h0
  have E1 := Lib.hid h1
  have rk0 := rk.1
  have rk1 := rk.2
  have rt0 := rt.1
  have rt1 := rt.2
  have wk := wrap_small rk.1 rk.2
  have wt := wrap_small rt.1 rt.2
  clear rk rt b1 b2 hpart hX h0 h1 hb0
  rw [← hn]
  clear hn hh
  have HSP := Lib.hid (Below.refl w.heap.size w)
  go_enter Tryd.func19, Tryd.ntmps19
  go_upto_region 1 with fail
  have R0 := Lib.hid (Blk.new w #[Value.int IntKind.i64 0, Value.int IntKind.i64 0, Value.int IntKind.i64 0, Value.int IntKind.i64 0, Value.int IntKind.u64 0, Value.int IntKind.u64 0, Value.int IntKind.u64 0, Value.int IntKind.u64 0, Value.int IntKind.u64 0, Value.int IntKind.u64 0, Value.int IntKind.u64 0, Value.int IntKind.u64 0, Value.int IntKind.u64 0, Value.int IntKind.u64 0, Value.int IntKind.u64 0, Value.int IntKind.u64 0, Value.int IntKind.u64 0, Value.int IntKind.u64 0, Value.int IntKind.u64 0, Value.int IntKind.u64 0, Value.int IntKind.u64 0, Value.int IntKind.u64 0, Value.int IntKind.u64 0, Value.int IntKind.u64 0, Value.int IntKind.u64 0, Value.int IntKind.u64 0, Value.int IntKind.u64 0, Value.int IntKind.u64 0, Value.int IntKind.i64 0, Value.slice none 0 0, Value.int IntKind.i64 0, Value.int IntKind.i64 0, Value.int IntKind.i64 0, Value.bool false, Value.int IntKind.i64 0, Value.int IntKind.u64 0, Value.int IntKind.u64 0, Value.int IntKind.u64 0, Value.int IntKind.u64 0, Value.int IntKind.u64 0, Value.int IntKind.u64 0, Value.int IntKind.u64 0, Value.int IntKind.u64 0, Value.int IntKind.u64 0, Value.int IntKind.u64 0, Value.int IntKind.u64 0, Value.int IntKind.u64 0, Value.slice none 0 0] 33)
  have K0 := Lib.hid (below1 w (.cells #[Value.int IntKind.i64 0, Value.int IntKind.i64 0, Value.int IntKind.i64 0, Value.int IntKind.i64 0, Value.int IntKind.u64 0, Value.int IntKind.u64 0, Value.int IntKind.u64 0, Value.int IntKind.u64 0, Value.int IntKind.u64 0, Value.int IntKind.u64 0, Value.int IntKind.u64 0, Value.int IntKind.u64 0, Value.int IntKind.u64 0, Value.int IntKind.u64 0, Value.int IntKind.u64 0, Value.int IntKind.u64 0, Value.int IntKind.u64 0, Value.int IntKind.u64 0, Value.int IntKind.u64 0, Value.int IntKind.u64 0, Value.int IntKind.u64 0, Value.int IntKind.u64 0, Value.int IntKind.u64 0, Value.int IntKind.u64 0, Value.int IntKind.u64 0, Value.int IntKind.u64 0, Value.int IntKind.u64 0, Value.int IntKind.u64 0, Value.int IntKind.i64 0, Value.slice none 0 0, Value.int IntKind.i64 0, Value.int IntKind.i64 0, Value.int IntKind.i64 0, Value.bool false, Value.int IntKind.i64 0, Value.int IntKind.u64 0, Value.int IntKind.u64 0, Value.int IntKind.u64 0, Value.int IntKind.u64 0, Value.int IntKind.u64 0, Value.int IntKind.u64 0, Value.int IntKind.u64 0, Value.int IntKind.u64 0, Value.int IntKind.u64 0, Value.int IntKind.u64 0, Value.int IntKind.u64 0, Value.int IntKind.u64 0, Value.slice none 0 0] 33))
  generalize hw : w.alloc (.cells #[Value.int IntKind.i64 0, Value.int IntKind.i64 0, Value.int IntKind.i64 0, Value.int IntKind.i64 0, Value.int IntKind.u64 0, Value.int IntKind.u64 0, Value.int IntKind.u64 0, Value.int IntKind.u64 0, Value.int IntKind.u64 0, Value.int IntKind.u64 0, Value.int IntKind.u64 0, Value.int IntKind.u64 0, Value.int IntKind.u64 0, Value.int IntKind.u64 0, Value.int IntKind.u64 0, Value.int IntKind.u64 0, Value.int IntKind.u64 0, Value.int IntKind.u64 0, Value.int IntKind.u64 0, Value.int IntKind.u64 0, Value.int IntKind.u64 0, Value.int IntKind.u64 0, Value.int IntKind.u64 0, Value.int IntKind.u64 0, Value.int IntKind.u64 0, Value.int IntKind.u64 0, Value.int IntKind.u64 0, Value.int IntKind.u64 0, Value.int IntKind.i64 0, Value.slice none 0 0, Value.int IntKind.i64 0, Value.int IntKind.i64 0, Value.int IntKind.i64 0, Value.bool false, Value.int IntKind.i64 0, Value.int IntKind.u64 0, Value.int IntKind.u64 0, Value.int IntKind.u64 0, Value.int IntKind.u64 0, Value.int IntKind.u64 0, Value.int IntKind.u64 0, Value.int IntKind.u64 0, Value.int IntKind.u64 0, Value.int IntKind.u64 0, Value.int IntKind.u64 0, Value.int IntKind.u64 0, Value.int IntKind.u64 0, Value.slice none 0 0] 33) = W0 at *
  clear hw
  go_upto_region 2 with fail
  have HS1 := Lib.hid (show EyS w W0.heap.size p c l (l, false) (W0.alloc (.cells #[.slice p n c, .int .i64 0, .bool false] 76)) from ⟨0, false, by rw [← HN.out]; exact Blk.new _ _ _, Nat.zero_le _, rfl, K0.out.trans ((below1 _ _).mono K0.out.size), K0.out.size⟩)
  have R1 := Lib.hid (R0.out.old (.cells #[.slice p n c, .int .i64 0, .bool false] 76))
  have HNe := Lib.hid (show w.heap.size < W0.heap.size from R0.out.lt)
  clear R0 K0 HSP
  generalize W0.alloc (.cells #[.slice p n c, .int .i64 0, .bool false] 76) = W1 at *
  generalize W0.heap.size = b at *
  go_upto_region 3 with fail
  have HM2 := Lib.hid (show DgS p c l w b W1.heap.size zGm (l, false) (W1.alloc (.cells #[Value.int IntKind.i64 0, Value.int IntKind.i64 0, Value.int IntKind.i64 0, Value.int IntKind.i64 0, Value.int IntKind.u64 0, Value.int IntKind.u64 0, Value.int IntKind.u64 0, Value.int IntKind.u64 0, Value.int IntKind.u64 0, Value.int IntKind.u64 0, Value.int IntKind.u64 0, Value.int IntKind.u64 0, Value.int IntKind.u64 0, Value.int IntKind.u64 0, Value.int IntKind.u64 0, Value.int IntKind.u64 0, Value.int IntKind.u64 0, Value.int IntKind.u64 0, Value.int IntKind.u64 0, Value.int IntKind.u64 0, Value.int IntKind.u64 0, Value.int IntKind.u64 0, Value.int IntKind.u64 0, Value.int IntKind.u64 0, Value.int IntKind.u64 0, Value.int IntKind.u64 0, Value.int IntKind.u64 0, Value.int IntKind.u64 0, Value.int IntKind.i64 0, Value.slice none 0 0, Value.int IntKind.i64 0, Value.int IntKind.i64 0, Value.int IntKind.i64 0, Value.bool false, Value.int IntKind.i64 0, Value.int IntKind.u64 0, Value.int IntKind.u64 0, Value.int IntKind.u64 0, Value.int IntKind.u64 0, Value.int IntKind.u64 0, Value.int IntKind.u64 0, Value.int IntKind.u64 0, Value.int IntKind.u64 0, Value.int IntKind.u64 0, Value.int IntKind.u64 0, Value.int IntKind.u64 0, Value.int IntKind.u64 0, Value.slice none 0 0] 33)) from ⟨HS1.out.alloc _, R1.out.old _, by rw [← zGca]; exact Blk.new _ _ _, HNe.out, HS1.out.lt⟩)
  clear HS1 R1 HNe
  generalize W1.alloc (.cells #[Value.int IntKind.i64 0, Value.int IntKind.i64 0, Value.int IntKind.i64 0, Value.int IntKind.i64 0, Value.int IntKind.u64 0, Value.int IntKind.u64 0, Value.int IntKind.u64 0, Value.int IntKind.u64 0, Value.int IntKind.u64 0, Value.int IntKind.u64 0, Value.int IntKind.u64 0, Value.int IntKind.u64 0, Value.int IntKind.u64 0, Value.int IntKind.u64 0, Value.int IntKind.u64 0, Value.int IntKind.u64 0, Value.int IntKind.u64 0, Value.int IntKind.u64 0, Value.int IntKind.u64 0, Value.int IntKind.u64 0, Value.int IntKind.u64 0, Value.int IntKind.u64 0, Value.int IntKind.u64 0, Value.int IntKind.u64 0, Value.int IntKind.u64 0, Value.int IntKind.u64 0, Value.int IntKind.u64 0, Value.int IntKind.u64 0, Value.int IntKind.i64 0, Value.slice none 0 0, Value.int IntKind.i64 0, Value.int IntKind.i64 0, Value.int IntKind.i64 0, Value.bool false, Value.int IntKind.i64 0, Value.int IntKind.u64 0, Value.int IntKind.u64 0, Value.int IntKind.u64 0, Value.int IntKind.u64 0, Value.int IntKind.u64 0, Value.int IntKind.u64 0, Value.int IntKind.u64 0, Value.int IntKind.u64 0, Value.int IntKind.u64 0, Value.int IntKind.u64 0, Value.int IntKind.u64 0, Value.int IntKind.u64 0, Value.slice none 0 0] 33) = W2 at *
  generalize W1.heap.size = B5 at *
  have HC := Lib.hid (eget_h HH.out b (l, false) 1 (by decide) (by decide) W2 HM2.out.1)
  rw [E0.out] at HC
  go_wp2_with (go_at_call 38; refine HC.out.mono ?_; rintro e W3 ⟨rfl, hs, ht⟩; refine Hid.out ?_)
  have HM3 := Lib.hid (HM2.out.step hs ht)
  clear hs ht HC HM2 
  refine Lib.hid ?_
  go_wp2_with (refine storeCell rfl 3 _ _ rfl B5 0 (.int .i64 9) rfl rfl rfl (HM3.out.2.2.1.there (by rw [gca_size]; decide)) infoInt ?_; refine Hid.out ?_)
  have HM4 := Lib.hid (HM3.out.cell (j := 0) (v := .int .i64 9) (g0_kind 9))
  clear HM3
  generalize W3.setCell ⟨B5, 0, none⟩ (.int .i64 9) = W4 at *
  refine Lib.hid ?_
  have HC := Lib.hid (eget_h HH.out b x1 4 (by decide) (by decide) W4 HM4.out.1)
  rw [E1.out] at HC
  go_wp2_with (go_at_call 38; refine HC.out.mono ?_; rintro e W5 ⟨rfl, hs, ht⟩; refine Hid.out ?_)
  have HM5 := Lib.hid (HM4.out.step hs ht)
  clear hs ht HC HM4 
  refine Lib.hid ?_
  go_wp2_with (refine storeCell rfl 3 _ _ rfl B5 1 (.int .i64 t) rfl rfl rfl (HM5.out.2.2.1.there (by rw [gca_size]; decide)) infoInt ?_; refine Hid.out ?_)
  have HM6 := Lib.hid (HM5.out.cell (j := 1) (v := .int .i64 t) (g0_txn 9 t))
  clear HM5
  generalize W5.setCell ⟨B5, 1, none⟩ (.int .i64 t) = W6 at *
  refine Lib.hid ?_
  have kk : W6.cell? ⟨B5, 0, none⟩ = some (.int .i64 9) := HM6.out.2.2.1.cellsG.kind
  have HM6x := Lib.hid (show DgS p c l w b B5 (gr 9 t none 0 []) x2 W6 from HM6.out)
  clear HM6
  have HC := Lib.hid (eget_h HH.out b x2 2 (by decide) (by decide) W6 HM6x.out.1)
  rw [E2.out] at HC
  go_wp2_with (go_at_call 38; refine HC.out.mono ?_; rintro e W7 ⟨rfl, hs, ht⟩; refine Hid.out ?_)
  have HM7 := Lib.hid (HM6x.out.step hs ht)
  clear hs ht HC HM6x kk
  refine Lib.hid ?_
  have HBd := Lib.hid (show B5 < W7.heap.size from HM7.out.2.2.1.lt)
  obtain ⟨Bd, hBd⟩ : ∃ Bd, Bd = W7.heap.size := ⟨_, rfl⟩
  rw [← hBd] at HBd
  have HBs := Lib.hid hBd
  clear hBd
  go_wp2_with fail
  go_loopg [9] N (fun gk i wr => ∃ (r : Nat) (L : List Rm) (x' : Sta) (q : Option Addr) (cp : Nat), Hid (L.length = r) ∧ r + gk = N ∧ i = .int .i64 (r : Int) ∧ gMany gRule N x3 = (L.map (·.u) ++ (gMany gRule gk x').1, (gMany gRule gk x').2) ∧ OwnRs Bd (.slice q L.length cp) L wr ∧ DgS p c l w b B5 (gr 9 t q cp L) x' wr ∧ Bd ≤ wr.heap.size)
  case atStart => exact ⟨0, [], x3, none, 0, Lib.hid rfl, by omega, rfl, rfl, OwnRs.nil _ _, HM7.out, Nat.le_of_eq HBs.out⟩
  case round =>
    clear HM7 HBs
    obtain ⟨r, L, x', q, cp, HLr, hr, rfl, he, ho, hm, hbw⟩ := hrel
    have HO := Lib.hid ho
    have HM := Lib.hid hm
    have HE := Lib.hid he
    have HBw := Lib.hid hbw
    have k1 := hm.1.short
    clear ho hm he hbw
    have hr0 : (0 : Int) ≤ (r : Int) := by omega
    by_cases hk : gk = 0
    · subst hk
      have hgk : gMany gRule 0 x' = ([], x') := rfl
      have hrN : ¬ (r : Int) < (N : Int) := by omega
      clear k1
      have HOg := Lib.hid (show OwnG Bd (gr 9 t q cp L) wr from ⟨KOwns.nil _ _, HO.out⟩)
      clear HO
      have HO := Lib.hid HOg.out
      clear HOg
      have HBd := Lib.hid (show w.heap.size < Bd by have := HBd.out; have := HM.out.2.2.2; omega)
      rw [E3.out] at HE
      have hus : us = L.map (·.u) ∧ (z, sh) = x' := by
        have e := HE.out
        rw [hgk] at e
        rw [List.append_nil] at e
        injection e with e1 e2
        exact ⟨e1, e2⟩
      have HU := Lib.hid (show (gr 9 t q cp L).u = ⟨9, t, 0, zMu, 0, zHd, us⟩ by rw [hus.1]; rfl)
      obtain ⟨_, hx⟩ := hus
      subst hx
      clear HE hgk
      generalize (gr 9 t q cp L) = G at *
      generalize (⟨9, t, 0, zMu, 0, zHd, us⟩ : Ms) = M at *
      have HD := Lib.hid HDW.out.2
      have HWm := Lib.hid HDW.out.1
      clear HDW
      have k1 := HM.out.1.short
      cases sh
      rotate_left
      · have HE := Lib.hid (HD.out.1 rfl)
        go_wp2_with (refine wpList_store_row rfl 33 _ _ rfl w.heap.size #[Value.int IntKind.i64 0, Value.int IntKind.i64 0, Value.int IntKind.i64 0, Value.int IntKind.i64 0, Value.int IntKind.u64 0, Value.int IntKind.u64 0, Value.int IntKind.u64 0, Value.int IntKind.u64 0, Value.int IntKind.u64 0, Value.int IntKind.u64 0, Value.int IntKind.u64 0, Value.int IntKind.u64 0, Value.int IntKind.u64 0, Value.int IntKind.u64 0, Value.int IntKind.u64 0, Value.int IntKind.u64 0, Value.int IntKind.u64 0, Value.int IntKind.u64 0, Value.int IntKind.u64 0, Value.int IntKind.u64 0, Value.int IntKind.u64 0, Value.int IntKind.u64 0, Value.int IntKind.u64 0, Value.int IntKind.u64 0, Value.int IntKind.u64 0, Value.int IntKind.u64 0, Value.int IntKind.u64 0, Value.int IntKind.u64 0, Value.int IntKind.i64 0, Value.slice none 0 0, Value.int IntKind.i64 0, Value.int IntKind.i64 0, Value.int IntKind.i64 0, Value.bool false, Value.int IntKind.i64 0, Value.int IntKind.u64 0, Value.int IntKind.u64 0, Value.int IntKind.u64 0, Value.int IntKind.u64 0, Value.int IntKind.u64 0, Value.int IntKind.u64 0, Value.int IntKind.u64 0, Value.int IntKind.u64 0, Value.int IntKind.u64 0, Value.int IntKind.u64 0, Value.int IntKind.u64 0, Value.int IntKind.u64 0, Value.slice none 0 0] rfl rfl 33 _ HM.out.2.1 (by kernel_rfl) rfl (by simp [Value.oneCell']) ?_)
        refine bodyPost_ret (v := .tuple #[.agg (gca zGm), .int .i64 8]) ?_ rfl ⟨zGm, by rw [HE.out.1], by rw [HE.out.2]; rfl, zGm_in _, below_setRow HM.out.1.kept (Nat.le_refl _) _⟩
        exact res_twoG Tryd.results19 (cs := gca zGm) rfl rfl (by rw [← zGca]; exact HM.out.2.1.rset _) (gca_size _)
      obtain ⟨j, hj1, hj2, hj3⟩ := HM.out.1.at
      rw [← HN.out] at hj2 hj3
      by_cases hjn : j = n
      rotate_left
      · have HE := Lib.hid (HD.out.2.2 rfl (fun q => hjn (hj3.1 q.2.1)))
        have hne : ((j : Int) == (n : Int)) = false := by rw [beq_eq_false_iff_ne]; omega
        have hne1 : ((j : Int) != (n : Int)) = true := by rw [bne_iff_ne]; omega
        clear hjn hj2 hj3
        go_wp2_with (refine wpList_store_row rfl 33 _ _ rfl w.heap.size #[Value.int IntKind.i64 0, Value.int IntKind.i64 0, Value.int IntKind.i64 0, Value.int IntKind.i64 0, Value.int IntKind.u64 0, Value.int IntKind.u64 0, Value.int IntKind.u64 0, Value.int IntKind.u64 0, Value.int IntKind.u64 0, Value.int IntKind.u64 0, Value.int IntKind.u64 0, Value.int IntKind.u64 0, Value.int IntKind.u64 0, Value.int IntKind.u64 0, Value.int IntKind.u64 0, Value.int IntKind.u64 0, Value.int IntKind.u64 0, Value.int IntKind.u64 0, Value.int IntKind.u64 0, Value.int IntKind.u64 0, Value.int IntKind.u64 0, Value.int IntKind.u64 0, Value.int IntKind.u64 0, Value.int IntKind.u64 0, Value.int IntKind.u64 0, Value.int IntKind.u64 0, Value.int IntKind.u64 0, Value.int IntKind.u64 0, Value.int IntKind.i64 0, Value.slice none 0 0, Value.int IntKind.i64 0, Value.int IntKind.i64 0, Value.int IntKind.i64 0, Value.bool false, Value.int IntKind.i64 0, Value.int IntKind.u64 0, Value.int IntKind.u64 0, Value.int IntKind.u64 0, Value.int IntKind.u64 0, Value.int IntKind.u64 0, Value.int IntKind.u64 0, Value.int IntKind.u64 0, Value.int IntKind.u64 0, Value.int IntKind.u64 0, Value.int IntKind.u64 0, Value.int IntKind.u64 0, Value.int IntKind.u64 0, Value.slice none 0 0] rfl rfl 33 _ HM.out.2.1 (by kernel_rfl) rfl (by simp [Value.oneCell']) ?_)
        refine bodyPost_ret (v := .tuple #[.agg (gca zGm), .int .i64 2]) ?_ rfl ⟨zGm, by rw [HE.out.1], by rw [HE.out.2]; rfl, zGm_in _, below_setRow HM.out.1.kept (Nat.le_refl _) _⟩
        exact res_twoG Tryd.results19 (cs := gca zGm) rfl rfl (by rw [← zGca]; exact HM.out.2.1.rset _) (gca_size _)
      have HZ := Lib.hid (hj3.2 hjn)
      clear hj2 hj3
      subst hjn
      have heq0 : ((j : Int) == (j : Int)) = true := by simp
      have heq1 : ((j : Int) != (j : Int)) = false := by simp
      have HC := Lib.hid (rmsg_any G (by rw [HU.out]; exact HWm.out) wr HO.out.inG)
      rw [HU.out] at HC
      by_cases hsn : sndMs M = true
      rotate_left
      · have HE := Lib.hid (HD.out.2.2 rfl (fun q => hsn q.2.2))
        rw [eq_false_of_ne_true hsn] at HC
        go_wp2_with (first
          | (refine loadRowG rfl 33 _ rfl B5 rfl 33 (gca G) (0, 0) HM.out.2.2.1 Tryd.underlying33 rfl (by rw [gca_size]; exact infoG) ?_)
          | (go_at_call 13; refine HC.out.mono ?_; rintro e Wv ⟨rfl, hv⟩; refine Hid.out ?_))
        have HMv := Lib.hid (HM.out.below hv)
        clear hv HM HO HC hj1 k1
        refine Lib.hid ?_
        go_wp2_with (refine wpList_store_row rfl 33 _ _ rfl w.heap.size #[Value.int IntKind.i64 0, Value.int IntKind.i64 0, Value.int IntKind.i64 0, Value.int IntKind.i64 0, Value.int IntKind.u64 0, Value.int IntKind.u64 0, Value.int IntKind.u64 0, Value.int IntKind.u64 0, Value.int IntKind.u64 0, Value.int IntKind.u64 0, Value.int IntKind.u64 0, Value.int IntKind.u64 0, Value.int IntKind.u64 0, Value.int IntKind.u64 0, Value.int IntKind.u64 0, Value.int IntKind.u64 0, Value.int IntKind.u64 0, Value.int IntKind.u64 0, Value.int IntKind.u64 0, Value.int IntKind.u64 0, Value.int IntKind.u64 0, Value.int IntKind.u64 0, Value.int IntKind.u64 0, Value.int IntKind.u64 0, Value.int IntKind.u64 0, Value.int IntKind.u64 0, Value.int IntKind.u64 0, Value.int IntKind.u64 0, Value.int IntKind.i64 0, Value.slice none 0 0, Value.int IntKind.i64 0, Value.int IntKind.i64 0, Value.int IntKind.i64 0, Value.bool false, Value.int IntKind.i64 0, Value.int IntKind.u64 0, Value.int IntKind.u64 0, Value.int IntKind.u64 0, Value.int IntKind.u64 0, Value.int IntKind.u64 0, Value.int IntKind.u64 0, Value.int IntKind.u64 0, Value.int IntKind.u64 0, Value.int IntKind.u64 0, Value.int IntKind.u64 0, Value.int IntKind.u64 0, Value.int IntKind.u64 0, Value.slice none 0 0] rfl rfl 33 _ HMv.out.2.1 (by kernel_rfl) rfl (by simp [Value.oneCell']) ?_)
        refine bodyPost_ret (v := .tuple #[.agg (gca zGm), .int .i64 2]) ?_ rfl ⟨zGm, by rw [HE.out.1], by rw [HE.out.2]; rfl, zGm_in _, below_setRow HMv.out.1.kept (Nat.le_refl _) _⟩
        exact res_twoG Tryd.results19 (cs := gca zGm) rfl rfl (by rw [← zGca]; exact HMv.out.2.1.rset _) (gca_size _)
      have HE := Lib.hid (HD.out.2.1 rfl ⟨by first | rfl | trivial, HZ.out, hsn⟩)
      rw [hsn] at HC
      go_wp2_with (first
        | (refine loadRowG rfl 33 _ rfl B5 rfl 33 (gca G) (0, 0) HM.out.2.2.1 Tryd.underlying33 rfl (by rw [gca_size]; exact infoG) ?_)
        | (go_at_call 13; refine HC.out.mono ?_; rintro e Wv ⟨rfl, hv⟩; refine Hid.out ?_))
      have HMv := Lib.hid (HM.out.below hv)
      have HOv := Lib.hid (HO.out.below hv)
      clear hv HM HO HC hj1 k1
      refine Lib.hid ?_
      go_wp2_with (first
        | (refine wpList_load_row rfl 33 _ rfl B5 rfl 33 (gca G) (0, 0) _ HMv.out.2.2.1 Tryd.underlying33 rfl (by rw [gca_size]; exact infoG) ?_)
        | (refine wpList_store_row rfl 33 _ _ rfl w.heap.size (gca G) rfl rfl 33 _ HMv.out.2.1 (by kernel_rfl) rfl (gca_one _) ?_))
      refine bodyPost_ret (v := .tuple #[.agg (gca G), .int .i64 0]) ?_ rfl ⟨G, by rw [HE.out.1], by rw [HE.out.2]; exact HU.out, (HOv.out.rset HBd.out).inG, below_setRow HMv.out.1.kept (Nat.le_refl _) _⟩
      exact res_twoG Tryd.results19 (cs := gca G) rfl rfl (HMv.out.2.1.rset _) (gca_size _)
    obtain ⟨k', rfl⟩ : ∃ k', gk = k' + 1 := ⟨gk - 1, by omega⟩
    have hrN : (r : Int) < (N : Int) := by omega
    cases hsh : x'.2
    rotate_left
    · rw [hsh] at k1
      have hgk : gMany gRule (k' + 1) x' = ([], x') := gMany_stop _ _ hsh
      clear k1
      have HOg := Lib.hid (show OwnG Bd (gr 9 t q cp L) wr from ⟨KOwns.nil _ _, HO.out⟩)
      clear HO
      have HO := Lib.hid HOg.out
      clear HOg
      have HBd := Lib.hid (show w.heap.size < Bd by have := HBd.out; have := HM.out.2.2.2; omega)
      rw [E3.out] at HE
      have hus : us = L.map (·.u) ∧ (z, sh) = x' := by
        have e := HE.out
        rw [hgk] at e
        rw [List.append_nil] at e
        injection e with e1 e2
        exact ⟨e1, e2⟩
      have HU := Lib.hid (show (gr 9 t q cp L).u = ⟨9, t, 0, zMu, 0, zHd, us⟩ by rw [hus.1]; rfl)
      obtain ⟨_, hx⟩ := hus
      subst hx
      clear HE hgk
      generalize (gr 9 t q cp L) = G at *
      generalize (⟨9, t, 0, zMu, 0, zHd, us⟩ : Ms) = M at *
      obtain rfl : sh = true := hsh
      have HD := Lib.hid HDW.out.2
      clear HDW
      have k1 := HM.out.1.short
      have HE := Lib.hid (HD.out.1 rfl)
      go_wp2_with (refine wpList_store_row rfl 33 _ _ rfl w.heap.size #[Value.int IntKind.i64 0, Value.int IntKind.i64 0, Value.int IntKind.i64 0, Value.int IntKind.i64 0, Value.int IntKind.u64 0, Value.int IntKind.u64 0, Value.int IntKind.u64 0, Value.int IntKind.u64 0, Value.int IntKind.u64 0, Value.int IntKind.u64 0, Value.int IntKind.u64 0, Value.int IntKind.u64 0, Value.int IntKind.u64 0, Value.int IntKind.u64 0, Value.int IntKind.u64 0, Value.int IntKind.u64 0, Value.int IntKind.u64 0, Value.int IntKind.u64 0, Value.int IntKind.u64 0, Value.int IntKind.u64 0, Value.int IntKind.u64 0, Value.int IntKind.u64 0, Value.int IntKind.u64 0, Value.int IntKind.u64 0, Value.int IntKind.u64 0, Value.int IntKind.u64 0, Value.int IntKind.u64 0, Value.int IntKind.u64 0, Value.int IntKind.i64 0, Value.slice none 0 0, Value.int IntKind.i64 0, Value.int IntKind.i64 0, Value.int IntKind.i64 0, Value.bool false, Value.int IntKind.i64 0, Value.int IntKind.u64 0, Value.int IntKind.u64 0, Value.int IntKind.u64 0, Value.int IntKind.u64 0, Value.int IntKind.u64 0, Value.int IntKind.u64 0, Value.int IntKind.u64 0, Value.int IntKind.u64 0, Value.int IntKind.u64 0, Value.int IntKind.u64 0, Value.int IntKind.u64 0, Value.int IntKind.u64 0, Value.slice none 0 0] rfl rfl 33 _ HM.out.2.1 (by kernel_rfl) rfl (by simp [Value.oneCell']) ?_)
      refine bodyPost_ret (v := .tuple #[.agg (gca zGm), .int .i64 8]) ?_ rfl ⟨zGm, by rw [HE.out.1], by rw [HE.out.2]; rfl, zGm_in _, below_setRow HM.out.1.kept (Nat.le_refl _) _⟩
      exact res_twoG Tryd.results19 (cs := gca zGm) rfl rfl (by rw [← zGca]; exact HM.out.2.1.rset _) (gca_size _)
    rw [hsh] at k1
    have b0 := HM.out.1.byte HH.out.byte
    obtain ⟨⟨a, y1⟩, q0⟩ : ∃ y, gNs (List.replicate 12 8) x' = y := ⟨_, rfl⟩
    obtain ⟨⟨d, y2⟩, q1⟩ : ∃ y, gNs (List.replicate 12 8) y1 = y := ⟨_, rfl⟩
    obtain ⟨⟨pr, y3⟩, q2⟩ : ∃ y, gN 2 y2 = y := ⟨_, rfl⟩
    obtain ⟨⟨i, y4⟩, q3⟩ : ∃ y, gN 4 y3 = y := ⟨_, rfl⟩
    obtain ⟨⟨h, y5⟩, q4⟩ : ∃ y, gN 4 y4 = y := ⟨_, rfl⟩
    obtain ⟨⟨o, y6⟩, q5⟩ : ∃ y, gN 1 y5 = y := ⟨_, rfl⟩
    obtain ⟨⟨n1, y7⟩, q6⟩ : ∃ y, gN 8 y6 = y := ⟨_, rfl⟩
    obtain ⟨⟨n2, y8⟩, q7⟩ : ∃ y, gN 8 y7 = y := ⟨_, rfl⟩
    obtain ⟨⟨n3, y9⟩, q8⟩ : ∃ y, gN 8 y8 = y := ⟨_, rfl⟩
    obtain ⟨⟨ac, y10⟩, q9⟩ : ∃ y, gActs y9 = y := ⟨_, rfl⟩
    obtain ⟨hc1, hc2⟩ := two_heads q0 q1
    have HG := Lib.hid (gMany_step gRule k' hsh (gRule_parts x' hc1 q2 q3 q4 q5 q6 q7 q8 q9))
    have HJ := Lib.hid hc2
    have c1 := gNs_byte1 q0 b0
    have c2 := gNs_byte1 q1 c1
    have c3 := gN_byte1 q2 c2
    have u2 := gN_rng4 q2 (by decide) c2
    have u20 := u2.1
    have u21 := u2.2
    have v2 := wrap_small u2.1 u2.2
    have c4 := gN_byte1 q3 c3
    have u3 := gN_rng4 q3 (by decide) c3
    have u30 := u3.1
    have u31 := u3.2
    have v3 := wrap_small u3.1 u3.2
    have c5 := gN_byte1 q4 c4
    have u4 := gN_rng4 q4 (by decide) c4
    have u40 := u4.1
    have u41 := u4.2
    have v4 := wrap_small u4.1 u4.2
    have c6 := gN_byte1 q5 c5
    have u5 := gN_rng4 q5 (by decide) c5
    have u50 := u5.1
    have u51 := u5.2
    have v5 := wrap_small u5.1 u5.2
    have c7 := gN_byte1 q6 c6
    have u6 := gN_rng8 q6 c6
    have u60 := u6.1
    have u61 := u6.2
    have v6 := wrap_sgn u6.1 u6.2
    have c8 := gN_byte1 q7 c7
    have u7 := gN_rng8 q7 c7
    have u70 := u7.1
    have u71 := u7.2
    have v7 := wrap_sgn u7.1 u7.2
    have c9 := gN_byte1 q8 c8
    have u8 := gN_rng8 q8 c8
    have u80 := u8.1
    have u81 := u8.2
    have v8 := wrap_sgn u8.1 u8.2
    have Q0 := Lib.hid q0
    have Q1 := Lib.hid q1
    have Q2 := Lib.hid q2
    have Q3 := Lib.hid q3
    have Q4 := Lib.hid q4
    have Q5 := Lib.hid q5
    have Q6 := Lib.hid q6
    have Q7 := Lib.hid q7
    have Q8 := Lib.hid q8
    have Q9 := Lib.hid q9
    clear hc1 hc2 hsh b0 c1 c2 c3 u2 c4 u3 c5 u4 c6 u5 c7 u6 c8 u7 c9 u8 q0 q1 q2 q3 q4 q5 q6 q7 q8 q9
    go_upto_region 31 with fail
    clear k1
    have HM0 := Lib.hid (show RgS p c l w b B5 (gr 9 t q cp L) wr wr.heap.size (ru1 (fun _ => 0) 0 0 0 0 0 0 0) x' (wr.alloc (.cells #[Value.int IntKind.u64 0, Value.int IntKind.u64 0, Value.int IntKind.u64 0, Value.int IntKind.u64 0, Value.int IntKind.u64 0, Value.int IntKind.u64 0, Value.int IntKind.u64 0, Value.int IntKind.u64 0, Value.int IntKind.u64 0, Value.int IntKind.u64 0, Value.int IntKind.u64 0, Value.int IntKind.u64 0, Value.int IntKind.u64 0, Value.int IntKind.u64 0, Value.int IntKind.u64 0, Value.int IntKind.u64 0, Value.int IntKind.u64 0, Value.int IntKind.u64 0, Value.int IntKind.u64 0, Value.int IntKind.u64 0, Value.int IntKind.u64 0, Value.int IntKind.u64 0, Value.int IntKind.u64 0, Value.int IntKind.u64 0, Value.int IntKind.i64 0, Value.slice none 0 0, Value.int IntKind.i64 0, Value.int IntKind.i64 0, Value.int IntKind.i64 0, Value.int IntKind.i64 0, Value.int IntKind.i64 0, Value.int IntKind.i64 0] 65)) from ⟨HM.out.alloc _, EyS.salloc HM.out.1 _, by rw [← ru1_zero]; exact Blk.new _ _ _, HM.out.2.2.1.lt, Nat.le_refl _, HM.out.1.lt⟩)
    generalize wr.alloc (.cells #[Value.int IntKind.u64 0, Value.int IntKind.u64 0, Value.int IntKind.u64 0, Value.int IntKind.u64 0, Value.int IntKind.u64 0, Value.int IntKind.u64 0, Value.int IntKind.u64 0, Value.int IntKind.u64 0, Value.int IntKind.u64 0, Value.int IntKind.u64 0, Value.int IntKind.u64 0, Value.int IntKind.u64 0, Value.int IntKind.u64 0, Value.int IntKind.u64 0, Value.int IntKind.u64 0, Value.int IntKind.u64 0, Value.int IntKind.u64 0, Value.int IntKind.u64 0, Value.int IntKind.u64 0, Value.int IntKind.u64 0, Value.int IntKind.u64 0, Value.int IntKind.u64 0, Value.int IntKind.u64 0, Value.int IntKind.u64 0, Value.int IntKind.i64 0, Value.slice none 0 0, Value.int IntKind.i64 0, Value.int IntKind.i64 0, Value.int IntKind.i64 0, Value.int IntKind.i64 0, Value.int IntKind.i64 0, Value.int IntKind.i64 0] 65) = V0 at *
    obtain ⟨G, hG⟩ : ∃ G, G = wr.heap.size := ⟨_, rfl⟩
    rw [← hG] at HM0 ⊢
    have HGs := Lib.hid hG
    clear hG HM
    have HC := Lib.hid (ehead_any HH.out b x' V0 HM0.out.1.1)
    rw [Q0.out] at HC
    go_wp2_with (go_at_call 39; refine HC.out.mono ?_; rintro e W101 ⟨rfl, hs, ht⟩; refine Hid.out ?_)
    have HM101 := Lib.hid (HM0.out.step hs ht)
    clear hs ht HC HM0
    refine Lib.hid ?_
    go_wp2_with (refine wpList_store_mid rfl 25 _ _ rfl G 0 (hc (nthI a)) rfl rfl (HM101.out.2.2.1.there (by rw [rca_size, hc_size]; decide)) infoHead (hc_one _) ?_; refine Hid.out ?_)
    have HM102 := Lib.hid (HM101.out.mid (j := 0) (vs := (hc (nthI a)).toList) (ru1_value (nthI a)))
    clear HM101
    generalize W101.setCells G 0 (hc (nthI a)).toList = W102 at *
    refine Lib.hid ?_
    have HC := Lib.hid (ehead_any HH.out b y1 W102 HM102.out.1.1)
    rw [Q1.out] at HC
    go_wp2_with (go_at_call 39; refine HC.out.mono ?_; rintro e W103 ⟨rfl, hs, ht⟩; refine Hid.out ?_)
    have HM103 := Lib.hid (HM102.out.step hs ht)
    clear hs ht HC HM102
    refine Lib.hid ?_
    go_wp2_with (refine wpList_store_mid rfl 25 _ _ rfl G 12 (hc (nthI d)) rfl rfl (HM103.out.2.2.1.there (by rw [rca_size, hc_size]; decide)) infoHead (hc_one _) ?_; refine Hid.out ?_)
    have HM104 := Lib.hid (HM103.out.mid (j := 12) (vs := (hc (nthI d)).toList) (ru1_care (nthI d)))
    clear HM103
    generalize W103.setCells G 12 (hc (nthI d)).toList = W104 at *
    refine Lib.hid ?_
    rw [HJ.out] at HM104
    have HC := Lib.hid (eget_h HH.out b y2 2 (by decide) (by decide) W104 HM104.out.1.1)
    rw [Q2.out] at HC
    go_wp2_with (go_at_call 38; refine HC.out.mono ?_; rintro e W105 ⟨rfl, hs, ht⟩; refine Hid.out ?_)
    have HM105 := Lib.hid (HM104.out.step hs ht)
    clear hs ht HC HM104
    refine Lib.hid ?_
    go_wp2_with (refine storeCell rfl 3 _ _ rfl G 24 (.int .i64 pr) rfl rfl rfl (HM105.out.2.2.1.there (by rw [rca_size]; decide)) infoInt ?_; refine Hid.out ?_)
    have HM106 := Lib.hid (HM105.out.cell (j := 24) (v := .int .i64 pr) (ru1_prio pr))
    clear HM105
    generalize W105.setCell ⟨G, 24, none⟩ (.int .i64 pr) = W106 at *
    refine Lib.hid ?_
    have HC := Lib.hid (eget_h HH.out b y3 4 (by decide) (by decide) W106 HM106.out.1.1)
    rw [Q3.out] at HC
    go_wp2_with (go_at_call 38; refine HC.out.mono ?_; rintro e W107 ⟨rfl, hs, ht⟩; refine Hid.out ?_)
    have HM107 := Lib.hid (HM106.out.step hs ht)
    clear hs ht HC HM106
    refine Lib.hid ?_
    go_wp2_with (refine storeCell rfl 3 _ _ rfl G 26 (.int .i64 i) rfl rfl rfl (HM107.out.2.2.1.there (by rw [rca_size]; decide)) infoInt ?_; refine Hid.out ?_)
    have HM108 := Lib.hid (HM107.out.cell (j := 26) (v := .int .i64 i) (ru1_idle i))
    clear HM107
    generalize W107.setCell ⟨G, 26, none⟩ (.int .i64 i) = W108 at *
    refine Lib.hid ?_
    have HC := Lib.hid (eget_h HH.out b y4 4 (by decide) (by decide) W108 HM108.out.1.1)
    rw [Q4.out] at HC
    go_wp2_with (go_at_call 38; refine HC.out.mono ?_; rintro e W109 ⟨rfl, hs, ht⟩; refine Hid.out ?_)
    have HM109 := Lib.hid (HM108.out.step hs ht)
    clear hs ht HC HM108
    refine Lib.hid ?_
    go_wp2_with (refine storeCell rfl 3 _ _ rfl G 27 (.int .i64 h) rfl rfl rfl (HM109.out.2.2.1.there (by rw [rca_size]; decide)) infoInt ?_; refine Hid.out ?_)
    have HM110 := Lib.hid (HM109.out.cell (j := 27) (v := .int .i64 h) (ru1_hard h))
    clear HM109
    generalize W109.setCell ⟨G, 27, none⟩ (.int .i64 h) = W110 at *
    refine Lib.hid ?_
    have HC := Lib.hid (eget_h HH.out b y5 1 (by decide) (by decide) W110 HM110.out.1.1)
    rw [Q5.out] at HC
    go_wp2_with (go_at_call 38; refine HC.out.mono ?_; rintro e W111 ⟨rfl, hs, ht⟩; refine Hid.out ?_)
    have HM111 := Lib.hid (HM110.out.step hs ht)
    clear hs ht HC HM110
    refine Lib.hid ?_
    go_wp2_with (refine storeCell rfl 3 _ _ rfl G 28 (.int .i64 o) rfl rfl rfl (HM111.out.2.2.1.there (by rw [rca_size]; decide)) infoInt ?_; refine Hid.out ?_)
    have HM112 := Lib.hid (HM111.out.cell (j := 28) (v := .int .i64 o) (ru1_owner o))
    clear HM111
    generalize W111.setCell ⟨G, 28, none⟩ (.int .i64 o) = W112 at *
    refine Lib.hid ?_
    have HC := Lib.hid (eget_h HH.out b y6 8 (by decide) (by decide) W112 HM112.out.1.1)
    rw [Q6.out] at HC
    go_wp2_with (go_at_call 38; refine HC.out.mono ?_; rintro e W113 ⟨rfl, hs, ht⟩; refine Hid.out ?_)
    have HM113 := Lib.hid (HM112.out.step hs ht)
    clear hs ht HC HM112
    refine Lib.hid ?_
    go_wp2_with (refine storeCell rfl 3 _ _ rfl G 29 (.int .i64 (sgnI n1)) rfl rfl rfl (HM113.out.2.2.1.there (by rw [rca_size]; decide)) infoInt ?_; refine Hid.out ?_)
    have HM114 := Lib.hid (HM113.out.cell (j := 29) (v := .int .i64 (sgnI n1)) (ru1_hits (sgnI n1)))
    clear HM113
    generalize W113.setCell ⟨G, 29, none⟩ (.int .i64 (sgnI n1)) = W114 at *
    refine Lib.hid ?_
    have HC := Lib.hid (eget_h HH.out b y7 8 (by decide) (by decide) W114 HM114.out.1.1)
    rw [Q7.out] at HC
    go_wp2_with (go_at_call 38; refine HC.out.mono ?_; rintro e W115 ⟨rfl, hs, ht⟩; refine Hid.out ?_)
    have HM115 := Lib.hid (HM114.out.step hs ht)
    clear hs ht HC HM114
    refine Lib.hid ?_
    go_wp2_with (refine storeCell rfl 3 _ _ rfl G 30 (.int .i64 (sgnI n2)) rfl rfl rfl (HM115.out.2.2.1.there (by rw [rca_size]; decide)) infoInt ?_; refine Hid.out ?_)
    have HM116 := Lib.hid (HM115.out.cell (j := 30) (v := .int .i64 (sgnI n2)) (ru1_quiet (sgnI n2)))
    clear HM115
    generalize W115.setCell ⟨G, 30, none⟩ (.int .i64 (sgnI n2)) = W116 at *
    refine Lib.hid ?_
    have HC := Lib.hid (eget_h HH.out b y8 8 (by decide) (by decide) W116 HM116.out.1.1)
    rw [Q8.out] at HC
    go_wp2_with (go_at_call 38; refine HC.out.mono ?_; rintro e W117 ⟨rfl, hs, ht⟩; refine Hid.out ?_)
    have HM117 := Lib.hid (HM116.out.step hs ht)
    clear hs ht HC HM116
    refine Lib.hid ?_
    go_wp2_with (refine storeCell rfl 3 _ _ rfl G 31 (.int .i64 (sgnI n3)) rfl rfl rfl (HM117.out.2.2.1.there (by rw [rca_size]; decide)) infoInt ?_; refine Hid.out ?_)
    have HM118 := Lib.hid (HM117.out.cell (j := 31) (v := .int .i64 (sgnI n3)) (ru1_age (sgnI n3)))
    clear HM117
    generalize W117.setCell ⟨G, 31, none⟩ (.int .i64 (sgnI n3)) = W118 at *
    refine Lib.hid ?_
    have HC := Lib.hid (eacts_read HH.out b y9 W118 HM118.out.1.1)
    rw [Q9.out] at HC
    have HGl := Lib.hid (show G < W118.heap.size ∧ wr.heap.size ≤ W118.heap.size from ⟨HM118.out.2.2.1.lt, HM118.out.2.1.below.size⟩)
    go_wp2_with (go_at_call 40; refine HC.out.mono ?_; rintro e W119 ⟨v, rfl, ho, hs, ht⟩; refine Hid.out ?_)
    obtain ⟨qa, ca, rfl⟩ := ho.form
    have HOa := Lib.hid ho
    have HM119 := Lib.hid (HM118.out.step hs ht)
    clear ho hs ht HC HM118
    refine Lib.hid ?_
    go_wp2_with (refine storeCell rfl 28 _ _ rfl G 25 (.slice qa ac.length ca) rfl rfl rfl (HM119.out.2.2.1.there (by rw [rca_size]; decide)) infoActs ?_; refine Hid.out ?_)
    have HM120 := Lib.hid (HM119.out.cell (j := 25) (v := .slice qa ac.length ca) (ru1_acts qa ac.length ca ac))
    have HOb := Lib.hid (HOa.out.cset (g := G) (k := 25) (x := .slice qa ac.length ca) HGl.out.1)
    clear HOa
    clear HM119
    generalize W119.setCell ⟨G, 25, none⟩ (.slice qa ac.length ca) = W120 at *
    refine Lib.hid ?_
    have HA := Lib.hid (show OwnA Bd (⟨⟨cubeOf (a ++ d) 0, pr, ac, i, h, o, sgnI n1, sgnI n2, sgnI n3⟩, qa, ac.length, ca⟩ : Rm) W120 from KOwns.mono HOb.out (by have := HBw.out; have := HGl.out; omega))
    have HOr := Lib.hid (show OwnRs Bd (.slice q L.length cp) L W120 from ⟨HM120.out.2.1.owns HO.out.1 (by have := HBd.out; have := HM120.out.1.2.2.2; omega), fun y hy => HM120.out.2.1.owns (HO.out.2 y hy) (by have := HBd.out; have := HM120.out.1.2.2.2; omega)⟩)
    have HU := Lib.hid (show (⟨⟨cubeOf (a ++ d) 0, pr, ac, i, h, o, sgnI n1, sgnI n2, sgnI n3⟩, qa, ac.length, ca⟩ : Rm).u = ⟨cubeOf (a ++ d) 0, pr, ac, i, h, o, sgnI n1, sgnI n2, sgnI n3⟩ from rfl)
    clear HOb HO
    generalize (⟨⟨cubeOf (a ++ d) 0, pr, ac, i, h, o, sgnI n1, sgnI n2, sgnI n3⟩, qa, ac.length, ca⟩ : Rm) = rm at *
    have HWs := Lib.hid (show Bd ≤ W120.heap.size by have := HBw.out; have := HM120.out.2.1.below.size; omega)
    have k47 : W120.cell? ⟨B5, 47, none⟩ = some (.slice q L.length cp) := HM120.out.1.2.2.1.cellsG.rules
    have hb1 := below1 W120 (.cells (rca rm) KR.T)
    have HA5 := Lib.hid (HA.out.below hb1)
    have HO5 := Lib.hid (show OwnRs Bd (.slice q L.length cp) L (W120.alloc (.cells (rca rm) KR.T)) from ⟨HOr.out.1.below hb1, fun y hy => OwnA.below (HOr.out.2 y hy) hb1⟩)
    have HM5 := Lib.hid (HM120.out.1.alloc (.cells (rca rm) KR.T))
    have HK5 := Lib.hid (Blk.klies (K := KR) (l := [rm]) (Blk.new W120 (rca rm) KR.T) okR rfl)
    have HW5 := Lib.hid (show Bd ≤ (W120.alloc (.cells (rca rm) KR.T)).heap.size by have := hb1.size; have := HWs.out; omega)
    clear hb1 HOr HA
    skip
    go_wp2_with (first
      | (refine wpList_load_row rfl 65 _ rfl G rfl 65 (rca rm) (0, 0) _ HM120.out.2.2.1 Tryd.underlying65 rfl (by rw [rca_size]; kernel_rfl) ?_)
      | (refine kbuildOne KR okR #[Value.int IntKind.u64 0, Value.int IntKind.u64 0, Value.int IntKind.u64 0, Value.int IntKind.u64 0, Value.int IntKind.u64 0, Value.int IntKind.u64 0, Value.int IntKind.u64 0, Value.int IntKind.u64 0, Value.int IntKind.u64 0, Value.int IntKind.u64 0, Value.int IntKind.u64 0, Value.int IntKind.u64 0, Value.int IntKind.u64 0, Value.int IntKind.u64 0, Value.int IntKind.u64 0, Value.int IntKind.u64 0, Value.int IntKind.u64 0, Value.int IntKind.u64 0, Value.int IntKind.u64 0, Value.int IntKind.u64 0, Value.int IntKind.u64 0, Value.int IntKind.u64 0, Value.int IntKind.u64 0, Value.int IntKind.u64 0, Value.int IntKind.i64 0, Value.slice none 0 0, Value.int IntKind.i64 0, Value.int IntKind.i64 0, Value.int IntKind.i64 0, Value.int IntKind.i64 0, Value.int IntKind.i64 0, Value.int IntKind.i64 0] zeroR rfl _ rfl (rca rm) rfl (by decide) (fillOne rm) ?_)
      | (refine kappend KR okR rfl _ _ rfl Bd _ L [rm] rfl HO5.out.1 _ rfl HK5.out HW5.out (by have := HLr.out; simp; omega) (fun v' w' ho hg => ?_); refine Hid.out ?_))
    have HO6 := Lib.hid (show OwnRs Bd v' (L ++ [rm]) w' from ⟨ho, fun y hy => by
      rcases List.mem_append.1 hy with hy | hy
      · exact KOwns.apart (HO5.out.2 y hy) HO5.out.1 hg
      · simp only [List.mem_cons, List.not_mem_nil, or_false] at hy
        subst hy
        exact KOwns.apart HA5.out HO5.out.1 hg⟩)
    have HM6 := Lib.hid (HM5.out.grow hg fun k e => by have := HO5.out.1.ge k e; have := HBd.out; omega)
    have HW6 := Lib.hid (show Bd ≤ w'.heap.size by have := hg.size; have := HW5.out; omega)
    clear ho hg HO5 HK5 HW5 HA5 HM5 k47 HWs HM120 HGl HBw HGs
    obtain ⟨L', hL'⟩ : ∃ L', L' = L ++ [rm] := ⟨_, rfl⟩
    rw [← hL'] at HO6
    have HL' := Lib.hid hL'
    have HLr' := Lib.hid (show L'.length = r + 1 by rw [hL', List.length_append, HLr.out]; rfl)
    clear hL'
    obtain ⟨q', cp', rfl⟩ := HO6.out.1.form
    refine Lib.hid ?_
    go_wp2_with (refine storeCell rfl 31 _ _ rfl B5 47 (.slice q' L'.length cp') rfl rfl rfl (HM6.out.2.2.1.there (by rw [gca_size]; decide)) infoRs ?_; refine Hid.out ?_)
    have HM7 := Lib.hid (HM6.out.cell (j := 47) (v := .slice q' L'.length cp') (gr_set 9 t q cp L q' cp' L'))
    have HO7 := Lib.hid (show OwnRs Bd (.slice q' L'.length cp') L' (w'.setCell ⟨B5, 47, none⟩ (.slice q' L'.length cp')) from ⟨HO6.out.1.cset HBd.out, fun y hy => KOwns.cset (HO6.out.2 y hy) HBd.out⟩)
    have HW7 := Lib.hid (show Bd ≤ (w'.setCell ⟨B5, 47, none⟩ (.slice q' L'.length cp')).heap.size from Nat.le_trans HW6.out (Nat.le_of_eq (heap_stM_size (g := B5) [.slice q' L'.length cp'] 47 w').symm))
    clear HM6 HO6 HW6
    generalize w'.setCell ⟨B5, 47, none⟩ (.slice q' L'.length cp') = W7 at *
    refine Lib.hid ?_
    go_wp2_with fail
    go_roundg k'
    case measure => omega
    case rel => exact ⟨r + 1, L', y10, q', cp', HLr', by omega, by go_num, by rw [HE.out, HG.out, HL'.out, ← HU.out]; simp, HO7.out, HM7.out, HW7.out⟩
end Go.Proofs.YtndgbgolmpoepaaDoor

/-
  The reference's Decode: rules.
-/
namespace Go.Proofs.YtndgbgolmpoepaaDoor
set_option maxRecDepth 20000
open Go.RowKit

set_option maxRecDepth 100000 in
set_option maxHeartbeats 16000000 in
theorem rdec_10 {p : Option Addr} {c : Nat} {l : List Int} (w : World) (hh : EyH w p c l) {k t : Int} {x1 x2 : Sta} (h0 : gN 1 (l, false) = (k, x1)) (h1 : gN 4 x1 = (t, x2)) (hk : k = 10) :
    Calls Tryd.prog 19 #[.slice p l.length c] w (DecRet w (decE l) (decV l)) := by
  obtain ⟨n, hn⟩ : ∃ n, n = l.length := ⟨_, rfl⟩
  have HH := Lib.hid hh
  have HN := Lib.hid hn
  have hb0 : ByL l := hh.byte
  have rk := gN_rng4 h0 (by decide) hb0
  have b1 := gN_byte1 h0 hb0
  have rt := gN_rng4 h1 (by decide) b1
  have b2 := gN_byte1 h1 b1
  have hpart := gMs_parts chkR h0 h1
  subst hk
  obtain ⟨⟨N0, x3⟩, h2⟩ : ∃ y, gN 2 x2 = y := ⟨_, rfl⟩
  have r2 := gN_rng1 h2 b2
  rw [powB_2] at r2
  obtain ⟨N, rfl⟩ := Int.eq_ofNat_of_zero_le r2.1
  have hN : N ≤ 65535 := by have := r2.2; omega
  have hNI : (N : Int) ≤ 65535 := by omega
  have hN0 : (0 : Int) ≤ (N : Int) := by omega
  have w2 : IntKind.i64.wrap (N : Int) = (N : Int) := wrap_small (by omega) (by omega)
  obtain ⟨⟨us, ⟨z, sh⟩⟩, h3⟩ : ∃ y, gMany gRule N x3 = y := ⟨_, rfl⟩
  have hX : gMs chkR (l, false) = (((⟨10, t, 0, zMu, 0, zHd, us⟩ : Ms), false), (z, sh)) := by
    rw [hpart]
    show (((⟨10, t, 0, zMu, 0, zHd, (gRules x2).1⟩ : Ms), false), (gRules x2).2) = _
    unfold gRules
    rw [h2]
    simp only [Int.toNat_natCast]
    rw [h3]
  have E2 := Lib.hid h2
  have E3 := Lib.hid h3
  have b3 := gN_byte1 h2 b2
  clear r2 h2 h3 b3
  obtain ⟨es, hes⟩ : ∃ es, es = decE l := ⟨_, rfl⟩
  obtain ⟨V, hV⟩ : ∃ V, V = decV l := ⟨_, rfl⟩
  have HDW := Lib.hid (dec_refW hb0 hX)
  rw [← hes, ← hV] at HDW ⊢
  clear hes hV
  have HX := Lib.hid hX
  have E0 := Lib.hid h0
  have E1 := Lib.hid h1
  have rk0 := rk.1
  have rk1 := rk.2
  have rt0 := rt.1
  have rt1 := rt.2
  have wk := wrap_small rk.1 rk.2
  have wt := wrap_small rt.1 rt.2
  clear rk rt b1 b2 hpart hX h0 h1 hb0
  rw [← hn]
  clear hn hh
  have HSP := Lib.hid (Below.refl w.heap.size w)
  go_enter Tryd.func19, Tryd.ntmps19
  go_upto_region 1 with fail
  have R0 := Lib.hid (Blk.new w #[Value.int IntKind.i64 0, Value.int IntKind.i64 0, Value.int IntKind.i64 0, Value.int IntKind.i64 0, Value.int IntKind.u64 0, Value.int IntKind.u64 0, Value.int IntKind.u64 0, Value.int IntKind.u64 0, Value.int IntKind.u64 0, Value.int IntKind.u64 0, Value.int IntKind.u64 0, Value.int IntKind.u64 0, Value.int IntKind.u64 0, Value.int IntKind.u64 0, Value.int IntKind.u64 0, Value.int IntKind.u64 0, Value.int IntKind.u64 0, Value.int IntKind.u64 0, Value.int IntKind.u64 0, Value.int IntKind.u64 0, Value.int IntKind.u64 0, Value.int IntKind.u64 0, Value.int IntKind.u64 0, Value.int IntKind.u64 0, Value.int IntKind.u64 0, Value.int IntKind.u64 0, Value.int IntKind.u64 0, Value.int IntKind.u64 0, Value.int IntKind.i64 0, Value.slice none 0 0, Value.int IntKind.i64 0, Value.int IntKind.i64 0, Value.int IntKind.i64 0, Value.bool false, Value.int IntKind.i64 0, Value.int IntKind.u64 0, Value.int IntKind.u64 0, Value.int IntKind.u64 0, Value.int IntKind.u64 0, Value.int IntKind.u64 0, Value.int IntKind.u64 0, Value.int IntKind.u64 0, Value.int IntKind.u64 0, Value.int IntKind.u64 0, Value.int IntKind.u64 0, Value.int IntKind.u64 0, Value.int IntKind.u64 0, Value.slice none 0 0] 33)
  have K0 := Lib.hid (below1 w (.cells #[Value.int IntKind.i64 0, Value.int IntKind.i64 0, Value.int IntKind.i64 0, Value.int IntKind.i64 0, Value.int IntKind.u64 0, Value.int IntKind.u64 0, Value.int IntKind.u64 0, Value.int IntKind.u64 0, Value.int IntKind.u64 0, Value.int IntKind.u64 0, Value.int IntKind.u64 0, Value.int IntKind.u64 0, Value.int IntKind.u64 0, Value.int IntKind.u64 0, Value.int IntKind.u64 0, Value.int IntKind.u64 0, Value.int IntKind.u64 0, Value.int IntKind.u64 0, Value.int IntKind.u64 0, Value.int IntKind.u64 0, Value.int IntKind.u64 0, Value.int IntKind.u64 0, Value.int IntKind.u64 0, Value.int IntKind.u64 0, Value.int IntKind.u64 0, Value.int IntKind.u64 0, Value.int IntKind.u64 0, Value.int IntKind.u64 0, Value.int IntKind.i64 0, Value.slice none 0 0, Value.int IntKind.i64 0, Value.int IntKind.i64 0, Value.int IntKind.i64 0, Value.bool false, Value.int IntKind.i64 0, Value.int IntKind.u64 0, Value.int IntKind.u64 0, Value.int IntKind.u64 0, Value.int IntKind.u64 0, Value.int IntKind.u64 0, Value.int IntKind.u64 0, Value.int IntKind.u64 0, Value.int IntKind.u64 0, Value.int IntKind.u64 0, Value.int IntKind.u64 0, Value.int IntKind.u64 0, Value.int IntKind.u64 0, Value.slice none 0 0] 33))
  generalize hw : w.alloc (.cells #[Value.int IntKind.i64 0, Value.int IntKind.i64 0, Value.int IntKind.i64 0, Value.int IntKind.i64 0, Value.int IntKind.u64 0, Value.int IntKind.u64 0, Value.int IntKind.u64 0, Value.int IntKind.u64 0, Value.int IntKind.u64 0, Value.int IntKind.u64 0, Value.int IntKind.u64 0, Value.int IntKind.u64 0, Value.int IntKind.u64 0, Value.int IntKind.u64 0, Value.int IntKind.u64 0, Value.int IntKind.u64 0, Value.int IntKind.u64 0, Value.int IntKind.u64 0, Value.int IntKind.u64 0, Value.int IntKind.u64 0, Value.int IntKind.u64 0, Value.int IntKind.u64 0, Value.int IntKind.u64 0, Value.int IntKind.u64 0, Value.int IntKind.u64 0, Value.int IntKind.u64 0, Value.int IntKind.u64 0, Value.int IntKind.u64 0, Value.int IntKind.i64 0, Value.slice none 0 0, Value.int IntKind.i64 0, Value.int IntKind.i64 0, Value.int IntKind.i64 0, Value.bool false, Value.int IntKind.i64 0, Value.int IntKind.u64 0, Value.int IntKind.u64 0, Value.int IntKind.u64 0, Value.int IntKind.u64 0, Value.int IntKind.u64 0, Value.int IntKind.u64 0, Value.int IntKind.u64 0, Value.int IntKind.u64 0, Value.int IntKind.u64 0, Value.int IntKind.u64 0, Value.int IntKind.u64 0, Value.int IntKind.u64 0, Value.slice none 0 0] 33) = W0 at *
  clear hw
  go_upto_region 2 with fail
  have HS1 := Lib.hid (show EyS w W0.heap.size p c l (l, false) (W0.alloc (.cells #[.slice p n c, .int .i64 0, .bool false] 76)) from ⟨0, false, by rw [← HN.out]; exact Blk.new _ _ _, Nat.zero_le _, rfl, K0.out.trans ((below1 _ _).mono K0.out.size), K0.out.size⟩)
  have R1 := Lib.hid (R0.out.old (.cells #[.slice p n c, .int .i64 0, .bool false] 76))
  have HNe := Lib.hid (show w.heap.size < W0.heap.size from R0.out.lt)
  clear R0 K0 HSP
  generalize W0.alloc (.cells #[.slice p n c, .int .i64 0, .bool false] 76) = W1 at *
  generalize W0.heap.size = b at *
  go_upto_region 3 with fail
  have HM2 := Lib.hid (show DgS p c l w b W1.heap.size zGm (l, false) (W1.alloc (.cells #[Value.int IntKind.i64 0, Value.int IntKind.i64 0, Value.int IntKind.i64 0, Value.int IntKind.i64 0, Value.int IntKind.u64 0, Value.int IntKind.u64 0, Value.int IntKind.u64 0, Value.int IntKind.u64 0, Value.int IntKind.u64 0, Value.int IntKind.u64 0, Value.int IntKind.u64 0, Value.int IntKind.u64 0, Value.int IntKind.u64 0, Value.int IntKind.u64 0, Value.int IntKind.u64 0, Value.int IntKind.u64 0, Value.int IntKind.u64 0, Value.int IntKind.u64 0, Value.int IntKind.u64 0, Value.int IntKind.u64 0, Value.int IntKind.u64 0, Value.int IntKind.u64 0, Value.int IntKind.u64 0, Value.int IntKind.u64 0, Value.int IntKind.u64 0, Value.int IntKind.u64 0, Value.int IntKind.u64 0, Value.int IntKind.u64 0, Value.int IntKind.i64 0, Value.slice none 0 0, Value.int IntKind.i64 0, Value.int IntKind.i64 0, Value.int IntKind.i64 0, Value.bool false, Value.int IntKind.i64 0, Value.int IntKind.u64 0, Value.int IntKind.u64 0, Value.int IntKind.u64 0, Value.int IntKind.u64 0, Value.int IntKind.u64 0, Value.int IntKind.u64 0, Value.int IntKind.u64 0, Value.int IntKind.u64 0, Value.int IntKind.u64 0, Value.int IntKind.u64 0, Value.int IntKind.u64 0, Value.int IntKind.u64 0, Value.slice none 0 0] 33)) from ⟨HS1.out.alloc _, R1.out.old _, by rw [← zGca]; exact Blk.new _ _ _, HNe.out, HS1.out.lt⟩)
  clear HS1 R1 HNe
  generalize W1.alloc (.cells #[Value.int IntKind.i64 0, Value.int IntKind.i64 0, Value.int IntKind.i64 0, Value.int IntKind.i64 0, Value.int IntKind.u64 0, Value.int IntKind.u64 0, Value.int IntKind.u64 0, Value.int IntKind.u64 0, Value.int IntKind.u64 0, Value.int IntKind.u64 0, Value.int IntKind.u64 0, Value.int IntKind.u64 0, Value.int IntKind.u64 0, Value.int IntKind.u64 0, Value.int IntKind.u64 0, Value.int IntKind.u64 0, Value.int IntKind.u64 0, Value.int IntKind.u64 0, Value.int IntKind.u64 0, Value.int IntKind.u64 0, Value.int IntKind.u64 0, Value.int IntKind.u64 0, Value.int IntKind.u64 0, Value.int IntKind.u64 0, Value.int IntKind.u64 0, Value.int IntKind.u64 0, Value.int IntKind.u64 0, Value.int IntKind.u64 0, Value.int IntKind.i64 0, Value.slice none 0 0, Value.int IntKind.i64 0, Value.int IntKind.i64 0, Value.int IntKind.i64 0, Value.bool false, Value.int IntKind.i64 0, Value.int IntKind.u64 0, Value.int IntKind.u64 0, Value.int IntKind.u64 0, Value.int IntKind.u64 0, Value.int IntKind.u64 0, Value.int IntKind.u64 0, Value.int IntKind.u64 0, Value.int IntKind.u64 0, Value.int IntKind.u64 0, Value.int IntKind.u64 0, Value.int IntKind.u64 0, Value.int IntKind.u64 0, Value.slice none 0 0] 33) = W2 at *
  generalize W1.heap.size = B5 at *
  have HC := Lib.hid (eget_h HH.out b (l, false) 1 (by decide) (by decide) W2 HM2.out.1)
  rw [E0.out] at HC
  go_wp2_with (go_at_call 38; refine HC.out.mono ?_; rintro e W3 ⟨rfl, hs, ht⟩; refine Hid.out ?_)
  have HM3 := Lib.hid (HM2.out.step hs ht)
  clear hs ht HC HM2 
  refine Lib.hid ?_
  go_wp2_with (refine storeCell rfl 3 _ _ rfl B5 0 (.int .i64 10) rfl rfl rfl (HM3.out.2.2.1.there (by rw [gca_size]; decide)) infoInt ?_; refine Hid.out ?_)
  have HM4 := Lib.hid (HM3.out.cell (j := 0) (v := .int .i64 10) (g0_kind 10))
  clear HM3
  generalize W3.setCell ⟨B5, 0, none⟩ (.int .i64 10) = W4 at *
  refine Lib.hid ?_
  have HC := Lib.hid (eget_h HH.out b x1 4 (by decide) (by decide) W4 HM4.out.1)
  rw [E1.out] at HC
  go_wp2_with (go_at_call 38; refine HC.out.mono ?_; rintro e W5 ⟨rfl, hs, ht⟩; refine Hid.out ?_)
  have HM5 := Lib.hid (HM4.out.step hs ht)
  clear hs ht HC HM4 
  refine Lib.hid ?_
  go_wp2_with (refine storeCell rfl 3 _ _ rfl B5 1 (.int .i64 t) rfl rfl rfl (HM5.out.2.2.1.there (by rw [gca_size]; decide)) infoInt ?_; refine Hid.out ?_)
  have HM6 := Lib.hid (HM5.out.cell (j := 1) (v := .int .i64 t) (g0_txn 10 t))
  clear HM5
  generalize W5.setCell ⟨B5, 1, none⟩ (.int .i64 t) = W6 at *
  refine Lib.hid ?_
  have kk : W6.cell? ⟨B5, 0, none⟩ = some (.int .i64 10) := HM6.out.2.2.1.cellsG.kind
  have HM6x := Lib.hid (show DgS p c l w b B5 (gr 10 t none 0 []) x2 W6 from HM6.out)
  clear HM6
  have HC := Lib.hid (eget_h HH.out b x2 2 (by decide) (by decide) W6 HM6x.out.1)
  rw [E2.out] at HC
  go_wp2_with (go_at_call 38; refine HC.out.mono ?_; rintro e W7 ⟨rfl, hs, ht⟩; refine Hid.out ?_)
  have HM7 := Lib.hid (HM6x.out.step hs ht)
  clear hs ht HC HM6x kk
  refine Lib.hid ?_
  have HBd := Lib.hid (show B5 < W7.heap.size from HM7.out.2.2.1.lt)
  obtain ⟨Bd, hBd⟩ : ∃ Bd, Bd = W7.heap.size := ⟨_, rfl⟩
  rw [← hBd] at HBd
  have HBs := Lib.hid hBd
  clear hBd
  go_wp2_with fail
  go_loopg [9] N (fun gk i wr => ∃ (r : Nat) (L : List Rm) (x' : Sta) (q : Option Addr) (cp : Nat), Hid (L.length = r) ∧ r + gk = N ∧ i = .int .i64 (r : Int) ∧ gMany gRule N x3 = (L.map (·.u) ++ (gMany gRule gk x').1, (gMany gRule gk x').2) ∧ OwnRs Bd (.slice q L.length cp) L wr ∧ DgS p c l w b B5 (gr 10 t q cp L) x' wr ∧ Bd ≤ wr.heap.size)
  case atStart => exact ⟨0, [], x3, none, 0, Lib.hid rfl, by omega, rfl, rfl, OwnRs.nil _ _, HM7.out, Nat.le_of_eq HBs.out⟩
  case round =>
    clear HM7 HBs
    obtain ⟨r, L, x', q, cp, HLr, hr, rfl, he, ho, hm, hbw⟩ := hrel
    have HO := Lib.hid ho
    have HM := Lib.hid hm
    have HE := Lib.hid he
    have HBw := Lib.hid hbw
    have k1 := hm.1.short
    clear ho hm he hbw
    have hr0 : (0 : Int) ≤ (r : Int) := by omega
    by_cases hk : gk = 0
    · subst hk
      have hgk : gMany gRule 0 x' = ([], x') := rfl
      have hrN : ¬ (r : Int) < (N : Int) := by omega
      clear k1
      have HOg := Lib.hid (show OwnG Bd (gr 10 t q cp L) wr from ⟨KOwns.nil _ _, HO.out⟩)
      clear HO
      have HO := Lib.hid HOg.out
      clear HOg
      have HBd := Lib.hid (show w.heap.size < Bd by have := HBd.out; have := HM.out.2.2.2; omega)
      rw [E3.out] at HE
      have hus : us = L.map (·.u) ∧ (z, sh) = x' := by
        have e := HE.out
        rw [hgk] at e
        rw [List.append_nil] at e
        injection e with e1 e2
        exact ⟨e1, e2⟩
      have HU := Lib.hid (show (gr 10 t q cp L).u = ⟨10, t, 0, zMu, 0, zHd, us⟩ by rw [hus.1]; rfl)
      obtain ⟨_, hx⟩ := hus
      subst hx
      clear HE hgk
      generalize (gr 10 t q cp L) = G at *
      generalize (⟨10, t, 0, zMu, 0, zHd, us⟩ : Ms) = M at *
      have HD := Lib.hid HDW.out.2
      have HWm := Lib.hid HDW.out.1
      clear HDW
      have k1 := HM.out.1.short
      cases sh
      rotate_left
      · have HE := Lib.hid (HD.out.1 rfl)
        go_wp2_with (refine wpList_store_row rfl 33 _ _ rfl w.heap.size #[Value.int IntKind.i64 0, Value.int IntKind.i64 0, Value.int IntKind.i64 0, Value.int IntKind.i64 0, Value.int IntKind.u64 0, Value.int IntKind.u64 0, Value.int IntKind.u64 0, Value.int IntKind.u64 0, Value.int IntKind.u64 0, Value.int IntKind.u64 0, Value.int IntKind.u64 0, Value.int IntKind.u64 0, Value.int IntKind.u64 0, Value.int IntKind.u64 0, Value.int IntKind.u64 0, Value.int IntKind.u64 0, Value.int IntKind.u64 0, Value.int IntKind.u64 0, Value.int IntKind.u64 0, Value.int IntKind.u64 0, Value.int IntKind.u64 0, Value.int IntKind.u64 0, Value.int IntKind.u64 0, Value.int IntKind.u64 0, Value.int IntKind.u64 0, Value.int IntKind.u64 0, Value.int IntKind.u64 0, Value.int IntKind.u64 0, Value.int IntKind.i64 0, Value.slice none 0 0, Value.int IntKind.i64 0, Value.int IntKind.i64 0, Value.int IntKind.i64 0, Value.bool false, Value.int IntKind.i64 0, Value.int IntKind.u64 0, Value.int IntKind.u64 0, Value.int IntKind.u64 0, Value.int IntKind.u64 0, Value.int IntKind.u64 0, Value.int IntKind.u64 0, Value.int IntKind.u64 0, Value.int IntKind.u64 0, Value.int IntKind.u64 0, Value.int IntKind.u64 0, Value.int IntKind.u64 0, Value.int IntKind.u64 0, Value.slice none 0 0] rfl rfl 33 _ HM.out.2.1 (by kernel_rfl) rfl (by simp [Value.oneCell']) ?_)
        refine bodyPost_ret (v := .tuple #[.agg (gca zGm), .int .i64 8]) ?_ rfl ⟨zGm, by rw [HE.out.1], by rw [HE.out.2]; rfl, zGm_in _, below_setRow HM.out.1.kept (Nat.le_refl _) _⟩
        exact res_twoG Tryd.results19 (cs := gca zGm) rfl rfl (by rw [← zGca]; exact HM.out.2.1.rset _) (gca_size _)
      obtain ⟨j, hj1, hj2, hj3⟩ := HM.out.1.at
      rw [← HN.out] at hj2 hj3
      by_cases hjn : j = n
      rotate_left
      · have HE := Lib.hid (HD.out.2.2 rfl (fun q => hjn (hj3.1 q.2.1)))
        have hne : ((j : Int) == (n : Int)) = false := by rw [beq_eq_false_iff_ne]; omega
        have hne1 : ((j : Int) != (n : Int)) = true := by rw [bne_iff_ne]; omega
        clear hjn hj2 hj3
        go_wp2_with (refine wpList_store_row rfl 33 _ _ rfl w.heap.size #[Value.int IntKind.i64 0, Value.int IntKind.i64 0, Value.int IntKind.i64 0, Value.int IntKind.i64 0, Value.int IntKind.u64 0, Value.int IntKind.u64 0, Value.int IntKind.u64 0, Value.int IntKind.u64 0, Value.int IntKind.u64 0, Value.int IntKind.u64 0, Value.int IntKind.u64 0, Value.int IntKind.u64 0, Value.int IntKind.u64 0, Value.int IntKind.u64 0, Value.int IntKind.u64 0, Value.int IntKind.u64 0, Value.int IntKind.u64 0, Value.int IntKind.u64 0, Value.int IntKind.u64 0, Value.int IntKind.u64 0, Value.int IntKind.u64 0, Value.int IntKind.u64 0, Value.int IntKind.u64 0, Value.int IntKind.u64 0, Value.int IntKind.u64 0, Value.int IntKind.u64 0, Value.int IntKind.u64 0, Value.int IntKind.u64 0, Value.int IntKind.i64 0, Value.slice none 0 0, Value.int IntKind.i64 0, Value.int IntKind.i64 0, Value.int IntKind.i64 0, Value.bool false, Value.int IntKind.i64 0, Value.int IntKind.u64 0, Value.int IntKind.u64 0, Value.int IntKind.u64 0, Value.int IntKind.u64 0, Value.int IntKind.u64 0, Value.int IntKind.u64 0, Value.int IntKind.u64 0, Value.int IntKind.u64 0, Value.int IntKind.u64 0, Value.int IntKind.u64 0, Value.int IntKind.u64 0, Value.int IntKind.u64 0, Value.slice none 0 0] rfl rfl 33 _ HM.out.2.1 (by kernel_rfl) rfl (by simp [Value.oneCell']) ?_)
        refine bodyPost_ret (v := .tuple #[.agg (gca zGm), .int .i64 2]) ?_ rfl ⟨zGm, by rw [HE.out.1], by rw [HE.out.2]; rfl, zGm_in _, below_setRow HM.out.1.kept (Nat.le_refl _) _⟩
        exact res_twoG Tryd.results19 (cs := gca zGm) rfl rfl (by rw [← zGca]; exact HM.out.2.1.rset _) (gca_size _)
      have HZ := Lib.hid (hj3.2 hjn)
      clear hj2 hj3
      subst hjn
      have heq0 : ((j : Int) == (j : Int)) = true := by simp
      have heq1 : ((j : Int) != (j : Int)) = false := by simp
      have HC := Lib.hid (rmsg_any G (by rw [HU.out]; exact HWm.out) wr HO.out.inG)
      rw [HU.out] at HC
      by_cases hsn : sndMs M = true
      rotate_left
      · have HE := Lib.hid (HD.out.2.2 rfl (fun q => hsn q.2.2))
        rw [eq_false_of_ne_true hsn] at HC
        go_wp2_with (first
          | (refine loadRowG rfl 33 _ rfl B5 rfl 33 (gca G) (0, 0) HM.out.2.2.1 Tryd.underlying33 rfl (by rw [gca_size]; exact infoG) ?_)
          | (go_at_call 13; refine HC.out.mono ?_; rintro e Wv ⟨rfl, hv⟩; refine Hid.out ?_))
        have HMv := Lib.hid (HM.out.below hv)
        clear hv HM HO HC hj1 k1
        refine Lib.hid ?_
        go_wp2_with (refine wpList_store_row rfl 33 _ _ rfl w.heap.size #[Value.int IntKind.i64 0, Value.int IntKind.i64 0, Value.int IntKind.i64 0, Value.int IntKind.i64 0, Value.int IntKind.u64 0, Value.int IntKind.u64 0, Value.int IntKind.u64 0, Value.int IntKind.u64 0, Value.int IntKind.u64 0, Value.int IntKind.u64 0, Value.int IntKind.u64 0, Value.int IntKind.u64 0, Value.int IntKind.u64 0, Value.int IntKind.u64 0, Value.int IntKind.u64 0, Value.int IntKind.u64 0, Value.int IntKind.u64 0, Value.int IntKind.u64 0, Value.int IntKind.u64 0, Value.int IntKind.u64 0, Value.int IntKind.u64 0, Value.int IntKind.u64 0, Value.int IntKind.u64 0, Value.int IntKind.u64 0, Value.int IntKind.u64 0, Value.int IntKind.u64 0, Value.int IntKind.u64 0, Value.int IntKind.u64 0, Value.int IntKind.i64 0, Value.slice none 0 0, Value.int IntKind.i64 0, Value.int IntKind.i64 0, Value.int IntKind.i64 0, Value.bool false, Value.int IntKind.i64 0, Value.int IntKind.u64 0, Value.int IntKind.u64 0, Value.int IntKind.u64 0, Value.int IntKind.u64 0, Value.int IntKind.u64 0, Value.int IntKind.u64 0, Value.int IntKind.u64 0, Value.int IntKind.u64 0, Value.int IntKind.u64 0, Value.int IntKind.u64 0, Value.int IntKind.u64 0, Value.int IntKind.u64 0, Value.slice none 0 0] rfl rfl 33 _ HMv.out.2.1 (by kernel_rfl) rfl (by simp [Value.oneCell']) ?_)
        refine bodyPost_ret (v := .tuple #[.agg (gca zGm), .int .i64 2]) ?_ rfl ⟨zGm, by rw [HE.out.1], by rw [HE.out.2]; rfl, zGm_in _, below_setRow HMv.out.1.kept (Nat.le_refl _) _⟩
        exact res_twoG Tryd.results19 (cs := gca zGm) rfl rfl (by rw [← zGca]; exact HMv.out.2.1.rset _) (gca_size _)
      have HE := Lib.hid (HD.out.2.1 rfl ⟨by first | rfl | trivial, HZ.out, hsn⟩)
      rw [hsn] at HC
      go_wp2_with (first
        | (refine loadRowG rfl 33 _ rfl B5 rfl 33 (gca G) (0, 0) HM.out.2.2.1 Tryd.underlying33 rfl (by rw [gca_size]; exact infoG) ?_)
        | (go_at_call 13; refine HC.out.mono ?_; rintro e Wv ⟨rfl, hv⟩; refine Hid.out ?_))
      have HMv := Lib.hid (HM.out.below hv)
      have HOv := Lib.hid (HO.out.below hv)
      clear hv HM HO HC hj1 k1
      refine Lib.hid ?_
      go_wp2_with (first
        | (refine wpList_load_row rfl 33 _ rfl B5 rfl 33 (gca G) (0, 0) _ HMv.out.2.2.1 Tryd.underlying33 rfl (by rw [gca_size]; exact infoG) ?_)
        | (refine wpList_store_row rfl 33 _ _ rfl w.heap.size (gca G) rfl rfl 33 _ HMv.out.2.1 (by kernel_rfl) rfl (gca_one _) ?_))
      refine bodyPost_ret (v := .tuple #[.agg (gca G), .int .i64 0]) ?_ rfl ⟨G, by rw [HE.out.1], by rw [HE.out.2]; exact HU.out, (HOv.out.rset HBd.out).inG, below_setRow HMv.out.1.kept (Nat.le_refl _) _⟩
      exact res_twoG Tryd.results19 (cs := gca G) rfl rfl (HMv.out.2.1.rset _) (gca_size _)
    obtain ⟨k', rfl⟩ : ∃ k', gk = k' + 1 := ⟨gk - 1, by omega⟩
    have hrN : (r : Int) < (N : Int) := by omega
    cases hsh : x'.2
    rotate_left
    · rw [hsh] at k1
      have hgk : gMany gRule (k' + 1) x' = ([], x') := gMany_stop _ _ hsh
      clear k1
      have HOg := Lib.hid (show OwnG Bd (gr 10 t q cp L) wr from ⟨KOwns.nil _ _, HO.out⟩)
      clear HO
      have HO := Lib.hid HOg.out
      clear HOg
      have HBd := Lib.hid (show w.heap.size < Bd by have := HBd.out; have := HM.out.2.2.2; omega)
      rw [E3.out] at HE
      have hus : us = L.map (·.u) ∧ (z, sh) = x' := by
        have e := HE.out
        rw [hgk] at e
        rw [List.append_nil] at e
        injection e with e1 e2
        exact ⟨e1, e2⟩
      have HU := Lib.hid (show (gr 10 t q cp L).u = ⟨10, t, 0, zMu, 0, zHd, us⟩ by rw [hus.1]; rfl)
      obtain ⟨_, hx⟩ := hus
      subst hx
      clear HE hgk
      generalize (gr 10 t q cp L) = G at *
      generalize (⟨10, t, 0, zMu, 0, zHd, us⟩ : Ms) = M at *
      obtain rfl : sh = true := hsh
      have HD := Lib.hid HDW.out.2
      clear HDW
      have k1 := HM.out.1.short
      have HE := Lib.hid (HD.out.1 rfl)
      go_wp2_with (refine wpList_store_row rfl 33 _ _ rfl w.heap.size #[Value.int IntKind.i64 0, Value.int IntKind.i64 0, Value.int IntKind.i64 0, Value.int IntKind.i64 0, Value.int IntKind.u64 0, Value.int IntKind.u64 0, Value.int IntKind.u64 0, Value.int IntKind.u64 0, Value.int IntKind.u64 0, Value.int IntKind.u64 0, Value.int IntKind.u64 0, Value.int IntKind.u64 0, Value.int IntKind.u64 0, Value.int IntKind.u64 0, Value.int IntKind.u64 0, Value.int IntKind.u64 0, Value.int IntKind.u64 0, Value.int IntKind.u64 0, Value.int IntKind.u64 0, Value.int IntKind.u64 0, Value.int IntKind.u64 0, Value.int IntKind.u64 0, Value.int IntKind.u64 0, Value.int IntKind.u64 0, Value.int IntKind.u64 0, Value.int IntKind.u64 0, Value.int IntKind.u64 0, Value.int IntKind.u64 0, Value.int IntKind.i64 0, Value.slice none 0 0, Value.int IntKind.i64 0, Value.int IntKind.i64 0, Value.int IntKind.i64 0, Value.bool false, Value.int IntKind.i64 0, Value.int IntKind.u64 0, Value.int IntKind.u64 0, Value.int IntKind.u64 0, Value.int IntKind.u64 0, Value.int IntKind.u64 0, Value.int IntKind.u64 0, Value.int IntKind.u64 0, Value.int IntKind.u64 0, Value.int IntKind.u64 0, Value.int IntKind.u64 0, Value.int IntKind.u64 0, Value.int IntKind.u64 0, Value.slice none 0 0] rfl rfl 33 _ HM.out.2.1 (by kernel_rfl) rfl (by simp [Value.oneCell']) ?_)
      refine bodyPost_ret (v := .tuple #[.agg (gca zGm), .int .i64 8]) ?_ rfl ⟨zGm, by rw [HE.out.1], by rw [HE.out.2]; rfl, zGm_in _, below_setRow HM.out.1.kept (Nat.le_refl _) _⟩
      exact res_twoG Tryd.results19 (cs := gca zGm) rfl rfl (by rw [← zGca]; exact HM.out.2.1.rset _) (gca_size _)
    rw [hsh] at k1
    have b0 := HM.out.1.byte HH.out.byte
    obtain ⟨⟨a, y1⟩, q0⟩ : ∃ y, gNs (List.replicate 12 8) x' = y := ⟨_, rfl⟩
    obtain ⟨⟨d, y2⟩, q1⟩ : ∃ y, gNs (List.replicate 12 8) y1 = y := ⟨_, rfl⟩
    obtain ⟨⟨pr, y3⟩, q2⟩ : ∃ y, gN 2 y2 = y := ⟨_, rfl⟩
    obtain ⟨⟨i, y4⟩, q3⟩ : ∃ y, gN 4 y3 = y := ⟨_, rfl⟩
    obtain ⟨⟨h, y5⟩, q4⟩ : ∃ y, gN 4 y4 = y := ⟨_, rfl⟩
    obtain ⟨⟨o, y6⟩, q5⟩ : ∃ y, gN 1 y5 = y := ⟨_, rfl⟩
    obtain ⟨⟨n1, y7⟩, q6⟩ : ∃ y, gN 8 y6 = y := ⟨_, rfl⟩
    obtain ⟨⟨n2, y8⟩, q7⟩ : ∃ y, gN 8 y7 = y := ⟨_, rfl⟩
    obtain ⟨⟨n3, y9⟩, q8⟩ : ∃ y, gN 8 y8 = y := ⟨_, rfl⟩
    obtain ⟨⟨ac, y10⟩, q9⟩ : ∃ y, gActs y9 = y := ⟨_, rfl⟩
    obtain ⟨hc1, hc2⟩ := two_heads q0 q1
    have HG := Lib.hid (gMany_step gRule k' hsh (gRule_parts x' hc1 q2 q3 q4 q5 q6 q7 q8 q9))
    have HJ := Lib.hid hc2
    have c1 := gNs_byte1 q0 b0
    have c2 := gNs_byte1 q1 c1
    have c3 := gN_byte1 q2 c2
    have u2 := gN_rng4 q2 (by decide) c2
    have u20 := u2.1
    have u21 := u2.2
    have v2 := wrap_small u2.1 u2.2
    have c4 := gN_byte1 q3 c3
    have u3 := gN_rng4 q3 (by decide) c3
    have u30 := u3.1
    have u31 := u3.2
    have v3 := wrap_small u3.1 u3.2
    have c5 := gN_byte1 q4 c4
    have u4 := gN_rng4 q4 (by decide) c4
    have u40 := u4.1
    have u41 := u4.2
    have v4 := wrap_small u4.1 u4.2
    have c6 := gN_byte1 q5 c5
    have u5 := gN_rng4 q5 (by decide) c5
    have u50 := u5.1
    have u51 := u5.2
    have v5 := wrap_small u5.1 u5.2
    have c7 := gN_byte1 q6 c6
    have u6 := gN_rng8 q6 c6
    have u60 := u6.1
    have u61 := u6.2
    have v6 := wrap_sgn u6.1 u6.2
    have c8 := gN_byte1 q7 c7
    have u7 := gN_rng8 q7 c7
    have u70 := u7.1
    have u71 := u7.2
    have v7 := wrap_sgn u7.1 u7.2
    have c9 := gN_byte1 q8 c8
    have u8 := gN_rng8 q8 c8
    have u80 := u8.1
    have u81 := u8.2
    have v8 := wrap_sgn u8.1 u8.2
    have Q0 := Lib.hid q0
    have Q1 := Lib.hid q1
    have Q2 := Lib.hid q2
    have Q3 := Lib.hid q3
    have Q4 := Lib.hid q4
    have Q5 := Lib.hid q5
    have Q6 := Lib.hid q6
    have Q7 := Lib.hid q7
    have Q8 := Lib.hid q8
    have Q9 := Lib.hid q9
    clear hc1 hc2 hsh b0 c1 c2 c3 u2 c4 u3 c5 u4 c6 u5 c7 u6 c8 u7 c9 u8 q0 q1 q2 q3 q4 q5 q6 q7 q8 q9
    go_upto_region 31 with fail
    clear k1
    have HM0 := Lib.hid (show RgS p c l w b B5 (gr 10 t q cp L) wr wr.heap.size (ru1 (fun _ => 0) 0 0 0 0 0 0 0) x' (wr.alloc (.cells #[Value.int IntKind.u64 0, Value.int IntKind.u64 0, Value.int IntKind.u64 0, Value.int IntKind.u64 0, Value.int IntKind.u64 0, Value.int IntKind.u64 0, Value.int IntKind.u64 0, Value.int IntKind.u64 0, Value.int IntKind.u64 0, Value.int IntKind.u64 0, Value.int IntKind.u64 0, Value.int IntKind.u64 0, Value.int IntKind.u64 0, Value.int IntKind.u64 0, Value.int IntKind.u64 0, Value.int IntKind.u64 0, Value.int IntKind.u64 0, Value.int IntKind.u64 0, Value.int IntKind.u64 0, Value.int IntKind.u64 0, Value.int IntKind.u64 0, Value.int IntKind.u64 0, Value.int IntKind.u64 0, Value.int IntKind.u64 0, Value.int IntKind.i64 0, Value.slice none 0 0, Value.int IntKind.i64 0, Value.int IntKind.i64 0, Value.int IntKind.i64 0, Value.int IntKind.i64 0, Value.int IntKind.i64 0, Value.int IntKind.i64 0] 65)) from ⟨HM.out.alloc _, EyS.salloc HM.out.1 _, by rw [← ru1_zero]; exact Blk.new _ _ _, HM.out.2.2.1.lt, Nat.le_refl _, HM.out.1.lt⟩)
    generalize wr.alloc (.cells #[Value.int IntKind.u64 0, Value.int IntKind.u64 0, Value.int IntKind.u64 0, Value.int IntKind.u64 0, Value.int IntKind.u64 0, Value.int IntKind.u64 0, Value.int IntKind.u64 0, Value.int IntKind.u64 0, Value.int IntKind.u64 0, Value.int IntKind.u64 0, Value.int IntKind.u64 0, Value.int IntKind.u64 0, Value.int IntKind.u64 0, Value.int IntKind.u64 0, Value.int IntKind.u64 0, Value.int IntKind.u64 0, Value.int IntKind.u64 0, Value.int IntKind.u64 0, Value.int IntKind.u64 0, Value.int IntKind.u64 0, Value.int IntKind.u64 0, Value.int IntKind.u64 0, Value.int IntKind.u64 0, Value.int IntKind.u64 0, Value.int IntKind.i64 0, Value.slice none 0 0, Value.int IntKind.i64 0, Value.int IntKind.i64 0, Value.int IntKind.i64 0, Value.int IntKind.i64 0, Value.int IntKind.i64 0, Value.int IntKind.i64 0] 65) = V0 at *
    obtain ⟨G, hG⟩ : ∃ G, G = wr.heap.size := ⟨_, rfl⟩
    rw [← hG] at HM0 ⊢
    have HGs := Lib.hid hG
    clear hG HM
    have HC := Lib.hid (ehead_any HH.out b x' V0 HM0.out.1.1)
    rw [Q0.out] at HC
    go_wp2_with (go_at_call 39; refine HC.out.mono ?_; rintro e W101 ⟨rfl, hs, ht⟩; refine Hid.out ?_)
    have HM101 := Lib.hid (HM0.out.step hs ht)
    clear hs ht HC HM0
    refine Lib.hid ?_
    go_wp2_with (refine wpList_store_mid rfl 25 _ _ rfl G 0 (hc (nthI a)) rfl rfl (HM101.out.2.2.1.there (by rw [rca_size, hc_size]; decide)) infoHead (hc_one _) ?_; refine Hid.out ?_)
    have HM102 := Lib.hid (HM101.out.mid (j := 0) (vs := (hc (nthI a)).toList) (ru1_value (nthI a)))
    clear HM101
    generalize W101.setCells G 0 (hc (nthI a)).toList = W102 at *
    refine Lib.hid ?_
    have HC := Lib.hid (ehead_any HH.out b y1 W102 HM102.out.1.1)
    rw [Q1.out] at HC
    go_wp2_with (go_at_call 39; refine HC.out.mono ?_; rintro e W103 ⟨rfl, hs, ht⟩; refine Hid.out ?_)
    have HM103 := Lib.hid (HM102.out.step hs ht)
    clear hs ht HC HM102
    refine Lib.hid ?_
    go_wp2_with (refine wpList_store_mid rfl 25 _ _ rfl G 12 (hc (nthI d)) rfl rfl (HM103.out.2.2.1.there (by rw [rca_size, hc_size]; decide)) infoHead (hc_one _) ?_; refine Hid.out ?_)
    have HM104 := Lib.hid (HM103.out.mid (j := 12) (vs := (hc (nthI d)).toList) (ru1_care (nthI d)))
    clear HM103
    generalize W103.setCells G 12 (hc (nthI d)).toList = W104 at *
    refine Lib.hid ?_
    rw [HJ.out] at HM104
    have HC := Lib.hid (eget_h HH.out b y2 2 (by decide) (by decide) W104 HM104.out.1.1)
    rw [Q2.out] at HC
    go_wp2_with (go_at_call 38; refine HC.out.mono ?_; rintro e W105 ⟨rfl, hs, ht⟩; refine Hid.out ?_)
    have HM105 := Lib.hid (HM104.out.step hs ht)
    clear hs ht HC HM104
    refine Lib.hid ?_
    go_wp2_with (refine storeCell rfl 3 _ _ rfl G 24 (.int .i64 pr) rfl rfl rfl (HM105.out.2.2.1.there (by rw [rca_size]; decide)) infoInt ?_; refine Hid.out ?_)
    have HM106 := Lib.hid (HM105.out.cell (j := 24) (v := .int .i64 pr) (ru1_prio pr))
    clear HM105
    generalize W105.setCell ⟨G, 24, none⟩ (.int .i64 pr) = W106 at *
    refine Lib.hid ?_
    have HC := Lib.hid (eget_h HH.out b y3 4 (by decide) (by decide) W106 HM106.out.1.1)
    rw [Q3.out] at HC
    go_wp2_with (go_at_call 38; refine HC.out.mono ?_; rintro e W107 ⟨rfl, hs, ht⟩; refine Hid.out ?_)
    have HM107 := Lib.hid (HM106.out.step hs ht)
    clear hs ht HC HM106
    refine Lib.hid ?_
    go_wp2_with (refine storeCell rfl 3 _ _ rfl G 26 (.int .i64 i) rfl rfl rfl (HM107.out.2.2.1.there (by rw [rca_size]; decide)) infoInt ?_; refine Hid.out ?_)
    have HM108 := Lib.hid (HM107.out.cell (j := 26) (v := .int .i64 i) (ru1_idle i))
    clear HM107
    generalize W107.setCell ⟨G, 26, none⟩ (.int .i64 i) = W108 at *
    refine Lib.hid ?_
    have HC := Lib.hid (eget_h HH.out b y4 4 (by decide) (by decide) W108 HM108.out.1.1)
    rw [Q4.out] at HC
    go_wp2_with (go_at_call 38; refine HC.out.mono ?_; rintro e W109 ⟨rfl, hs, ht⟩; refine Hid.out ?_)
    have HM109 := Lib.hid (HM108.out.step hs ht)
    clear hs ht HC HM108
    refine Lib.hid ?_
    go_wp2_with (refine storeCell rfl 3 _ _ rfl G 27 (.int .i64 h) rfl rfl rfl (HM109.out.2.2.1.there (by rw [rca_size]; decide)) infoInt ?_; refine Hid.out ?_)
    have HM110 := Lib.hid (HM109.out.cell (j := 27) (v := .int .i64 h) (ru1_hard h))
    clear HM109
    generalize W109.setCell ⟨G, 27, none⟩ (.int .i64 h) = W110 at *
    refine Lib.hid ?_
    have HC := Lib.hid (eget_h HH.out b y5 1 (by decide) (by decide) W110 HM110.out.1.1)
    rw [Q5.out] at HC
    go_wp2_with (go_at_call 38; refine HC.out.mono ?_; rintro e W111 ⟨rfl, hs, ht⟩; refine Hid.out ?_)
    have HM111 := Lib.hid (HM110.out.step hs ht)
    clear hs ht HC HM110
    refine Lib.hid ?_
    go_wp2_with (refine storeCell rfl 3 _ _ rfl G 28 (.int .i64 o) rfl rfl rfl (HM111.out.2.2.1.there (by rw [rca_size]; decide)) infoInt ?_; refine Hid.out ?_)
    have HM112 := Lib.hid (HM111.out.cell (j := 28) (v := .int .i64 o) (ru1_owner o))
    clear HM111
    generalize W111.setCell ⟨G, 28, none⟩ (.int .i64 o) = W112 at *
    refine Lib.hid ?_
    have HC := Lib.hid (eget_h HH.out b y6 8 (by decide) (by decide) W112 HM112.out.1.1)
    rw [Q6.out] at HC
    go_wp2_with (go_at_call 38; refine HC.out.mono ?_; rintro e W113 ⟨rfl, hs, ht⟩; refine Hid.out ?_)
    have HM113 := Lib.hid (HM112.out.step hs ht)
    clear hs ht HC HM112
    refine Lib.hid ?_
    go_wp2_with (refine storeCell rfl 3 _ _ rfl G 29 (.int .i64 (sgnI n1)) rfl rfl rfl (HM113.out.2.2.1.there (by rw [rca_size]; decide)) infoInt ?_; refine Hid.out ?_)
    have HM114 := Lib.hid (HM113.out.cell (j := 29) (v := .int .i64 (sgnI n1)) (ru1_hits (sgnI n1)))
    clear HM113
    generalize W113.setCell ⟨G, 29, none⟩ (.int .i64 (sgnI n1)) = W114 at *
    refine Lib.hid ?_
    have HC := Lib.hid (eget_h HH.out b y7 8 (by decide) (by decide) W114 HM114.out.1.1)
    rw [Q7.out] at HC
    go_wp2_with (go_at_call 38; refine HC.out.mono ?_; rintro e W115 ⟨rfl, hs, ht⟩; refine Hid.out ?_)
    have HM115 := Lib.hid (HM114.out.step hs ht)
    clear hs ht HC HM114
    refine Lib.hid ?_
    go_wp2_with (refine storeCell rfl 3 _ _ rfl G 30 (.int .i64 (sgnI n2)) rfl rfl rfl (HM115.out.2.2.1.there (by rw [rca_size]; decide)) infoInt ?_; refine Hid.out ?_)
    have HM116 := Lib.hid (HM115.out.cell (j := 30) (v := .int .i64 (sgnI n2)) (ru1_quiet (sgnI n2)))
    clear HM115
    generalize W115.setCell ⟨G, 30, none⟩ (.int .i64 (sgnI n2)) = W116 at *
    refine Lib.hid ?_
    have HC := Lib.hid (eget_h HH.out b y8 8 (by decide) (by decide) W116 HM116.out.1.1)
    rw [Q8.out] at HC
    go_wp2_with (go_at_call 38; refine HC.out.mono ?_; rintro e W117 ⟨rfl, hs, ht⟩; refine Hid.out ?_)
    have HM117 := Lib.hid (HM116.out.step hs ht)
    clear hs ht HC HM116
    refine Lib.hid ?_
    go_wp2_with (refine storeCell rfl 3 _ _ rfl G 31 (.int .i64 (sgnI n3)) rfl rfl rfl (HM117.out.2.2.1.there (by rw [rca_size]; decide)) infoInt ?_; refine Hid.out ?_)
    have HM118 := Lib.hid (HM117.out.cell (j := 31) (v := .int .i64 (sgnI n3)) (ru1_age (sgnI n3)))
    clear HM117
    generalize W117.setCell ⟨G, 31, none⟩ (.int .i64 (sgnI n3)) = W118 at *
    refine Lib.hid ?_
    have HC := Lib.hid (eacts_read HH.out b y9 W118 HM118.out.1.1)
    rw [Q9.out] at HC
    have HGl := Lib.hid (show G < W118.heap.size ∧ wr.heap.size ≤ W118.heap.size from ⟨HM118.out.2.2.1.lt, HM118.out.2.1.below.size⟩)
    go_wp2_with (go_at_call 40; refine HC.out.mono ?_; rintro e W119 ⟨v, rfl, ho, hs, ht⟩; refine Hid.out ?_)
    obtain ⟨qa, ca, rfl⟩ := ho.form
    have HOa := Lib.hid ho
    have HM119 := Lib.hid (HM118.out.step hs ht)
    clear ho hs ht HC HM118
    refine Lib.hid ?_
    go_wp2_with (refine storeCell rfl 28 _ _ rfl G 25 (.slice qa ac.length ca) rfl rfl rfl (HM119.out.2.2.1.there (by rw [rca_size]; decide)) infoActs ?_; refine Hid.out ?_)
    have HM120 := Lib.hid (HM119.out.cell (j := 25) (v := .slice qa ac.length ca) (ru1_acts qa ac.length ca ac))
    have HOb := Lib.hid (HOa.out.cset (g := G) (k := 25) (x := .slice qa ac.length ca) HGl.out.1)
    clear HOa
    clear HM119
    generalize W119.setCell ⟨G, 25, none⟩ (.slice qa ac.length ca) = W120 at *
    refine Lib.hid ?_
    have HA := Lib.hid (show OwnA Bd (⟨⟨cubeOf (a ++ d) 0, pr, ac, i, h, o, sgnI n1, sgnI n2, sgnI n3⟩, qa, ac.length, ca⟩ : Rm) W120 from KOwns.mono HOb.out (by have := HBw.out; have := HGl.out; omega))
    have HOr := Lib.hid (show OwnRs Bd (.slice q L.length cp) L W120 from ⟨HM120.out.2.1.owns HO.out.1 (by have := HBd.out; have := HM120.out.1.2.2.2; omega), fun y hy => HM120.out.2.1.owns (HO.out.2 y hy) (by have := HBd.out; have := HM120.out.1.2.2.2; omega)⟩)
    have HU := Lib.hid (show (⟨⟨cubeOf (a ++ d) 0, pr, ac, i, h, o, sgnI n1, sgnI n2, sgnI n3⟩, qa, ac.length, ca⟩ : Rm).u = ⟨cubeOf (a ++ d) 0, pr, ac, i, h, o, sgnI n1, sgnI n2, sgnI n3⟩ from rfl)
    clear HOb HO
    generalize (⟨⟨cubeOf (a ++ d) 0, pr, ac, i, h, o, sgnI n1, sgnI n2, sgnI n3⟩, qa, ac.length, ca⟩ : Rm) = rm at *
    have HWs := Lib.hid (show Bd ≤ W120.heap.size by have := HBw.out; have := HM120.out.2.1.below.size; omega)
    have k47 : W120.cell? ⟨B5, 47, none⟩ = some (.slice q L.length cp) := HM120.out.1.2.2.1.cellsG.rules
    have hb1 := below1 W120 (.cells (rca rm) KR.T)
    have HA5 := Lib.hid (HA.out.below hb1)
    have HO5 := Lib.hid (show OwnRs Bd (.slice q L.length cp) L (W120.alloc (.cells (rca rm) KR.T)) from ⟨HOr.out.1.below hb1, fun y hy => OwnA.below (HOr.out.2 y hy) hb1⟩)
    have HM5 := Lib.hid (HM120.out.1.alloc (.cells (rca rm) KR.T))
    have HK5 := Lib.hid (Blk.klies (K := KR) (l := [rm]) (Blk.new W120 (rca rm) KR.T) okR rfl)
    have HW5 := Lib.hid (show Bd ≤ (W120.alloc (.cells (rca rm) KR.T)).heap.size by have := hb1.size; have := HWs.out; omega)
    clear hb1 HOr HA
    skip
    go_wp2_with (first
      | (refine wpList_load_row rfl 65 _ rfl G rfl 65 (rca rm) (0, 0) _ HM120.out.2.2.1 Tryd.underlying65 rfl (by rw [rca_size]; kernel_rfl) ?_)
      | (refine kbuildOne KR okR #[Value.int IntKind.u64 0, Value.int IntKind.u64 0, Value.int IntKind.u64 0, Value.int IntKind.u64 0, Value.int IntKind.u64 0, Value.int IntKind.u64 0, Value.int IntKind.u64 0, Value.int IntKind.u64 0, Value.int IntKind.u64 0, Value.int IntKind.u64 0, Value.int IntKind.u64 0, Value.int IntKind.u64 0, Value.int IntKind.u64 0, Value.int IntKind.u64 0, Value.int IntKind.u64 0, Value.int IntKind.u64 0, Value.int IntKind.u64 0, Value.int IntKind.u64 0, Value.int IntKind.u64 0, Value.int IntKind.u64 0, Value.int IntKind.u64 0, Value.int IntKind.u64 0, Value.int IntKind.u64 0, Value.int IntKind.u64 0, Value.int IntKind.i64 0, Value.slice none 0 0, Value.int IntKind.i64 0, Value.int IntKind.i64 0, Value.int IntKind.i64 0, Value.int IntKind.i64 0, Value.int IntKind.i64 0, Value.int IntKind.i64 0] zeroR rfl _ rfl (rca rm) rfl (by decide) (fillOne rm) ?_)
      | (refine kappend KR okR rfl _ _ rfl Bd _ L [rm] rfl HO5.out.1 _ rfl HK5.out HW5.out (by have := HLr.out; simp; omega) (fun v' w' ho hg => ?_); refine Hid.out ?_))
    have HO6 := Lib.hid (show OwnRs Bd v' (L ++ [rm]) w' from ⟨ho, fun y hy => by
      rcases List.mem_append.1 hy with hy | hy
      · exact KOwns.apart (HO5.out.2 y hy) HO5.out.1 hg
      · simp only [List.mem_cons, List.not_mem_nil, or_false] at hy
        subst hy
        exact KOwns.apart HA5.out HO5.out.1 hg⟩)
    have HM6 := Lib.hid (HM5.out.grow hg fun k e => by have := HO5.out.1.ge k e; have := HBd.out; omega)
    have HW6 := Lib.hid (show Bd ≤ w'.heap.size by have := hg.size; have := HW5.out; omega)
    clear ho hg HO5 HK5 HW5 HA5 HM5 k47 HWs HM120 HGl HBw HGs
    obtain ⟨L', hL'⟩ : ∃ L', L' = L ++ [rm] := ⟨_, rfl⟩
    rw [← hL'] at HO6
    have HL' := Lib.hid hL'
    have HLr' := Lib.hid (show L'.length = r + 1 by rw [hL', List.length_append, HLr.out]; rfl)
    clear hL'
    obtain ⟨q', cp', rfl⟩ := HO6.out.1.form
    refine Lib.hid ?_
    go_wp2_with (refine storeCell rfl 31 _ _ rfl B5 47 (.slice q' L'.length cp') rfl rfl rfl (HM6.out.2.2.1.there (by rw [gca_size]; decide)) infoRs ?_; refine Hid.out ?_)
    have HM7 := Lib.hid (HM6.out.cell (j := 47) (v := .slice q' L'.length cp') (gr_set 10 t q cp L q' cp' L'))
    have HO7 := Lib.hid (show OwnRs Bd (.slice q' L'.length cp') L' (w'.setCell ⟨B5, 47, none⟩ (.slice q' L'.length cp')) from ⟨HO6.out.1.cset HBd.out, fun y hy => KOwns.cset (HO6.out.2 y hy) HBd.out⟩)
    have HW7 := Lib.hid (show Bd ≤ (w'.setCell ⟨B5, 47, none⟩ (.slice q' L'.length cp')).heap.size from Nat.le_trans HW6.out (Nat.le_of_eq (heap_stM_size (g := B5) [.slice q' L'.length cp'] 47 w').symm))
    clear HM6 HO6 HW6
    generalize w'.setCell ⟨B5, 47, none⟩ (.slice q' L'.length cp') = W7 at *
    refine Lib.hid ?_
    go_wp2_with fail
    go_roundg k'
    case measure => omega
    case rel => exact ⟨r + 1, L', y10, q', cp', HLr', by omega, by go_num, by rw [HE.out, HG.out, HL'.out, ← HU.out]; simp, HO7.out, HM7.out, HW7.out⟩
end Go.Proofs.YtndgbgolmpoepaaDoor
