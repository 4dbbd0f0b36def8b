/-
  What the laws on patches share.
-/
import Derived.Test.YthnfaccenlkedaaDoorUndAns
import Derived.Test.YthnfaccenlkedaaDoorUndRef
namespace Go.Proofs.YthnfaccenlkedaaDoor
set_option maxRecDepth 20000
open Go.RowKit

theorem KOwns.formN {α : Type} {K : Kd α} {base : Nat} {v : Value} {l : List α} {W : World} {n : Nat} (h : KOwns K base v l W) (hn : l.length = n) : ∃ p cap, v = .slice p n cap := by
  subst hn
  exact h.form
theorem map_can_len (l : List Rm) : (l.map canR).length = l.length := by rw [List.length_map]
theorem map_nil {L : List Rm} (h : L.map (·.u) = []) : L = [] := by simpa using h
theorem beqT {k n : Int} (h : k = n) : (k == n) = true := by simpa using h
theorem beqF {k n : Int} (h : k ≠ n) : (k == n) = false := by simpa using h
theorem SwR.of {w w' : World} {us gs cs : List Ru} {e : Ending} {k : Int} {ks : List Ru} (hk : k = swapE us gs cs) (hv : ks = swapV us gs cs) (h : SwpRet w us gs cs e w') : SwR w k ks e w' := by
  subst hk hv
  exact h
/-- two tables and what DifRet says of them -/
theorem difG_yes {us ks : List Ru} (h1 : tabU us = true) (h2 : tabU ks = true) : difG us ks = aloneL us ks := by unfold difG; rw [h1, h2]; rfl
theorem difG_no1 {us ks : List Ru} (h1 : tabU us = false) : difG us ks = [] := by unfold difG; rw [h1]; rfl
theorem difG_no2 {us ks : List Ru} (h1 : tabU ks = false) : difG us ks = [] := by unfold difG; rw [h1, Bool.and_false]; rfl
theorem difG_len (us ks : List Ru) : (difG us ks).length ≤ us.length := by
  unfold difG
  split
  · exact alone_len us ks
  · exact Nat.zero_le _
theorem difG_wf {us ks : List Ru} (h : WfUL us) : WfUL (difG us ks) := by
  unfold difG
  split
  · exact alone_wf h
  · exact fun u hu => (by cases hu)
theorem difG_can {us ks : List Ru} (h : CanL us) : CanL (difG us ks) := by
  unfold difG
  split
  · exact alone_can h
  · exact fun u hu => (by cases hu)
theorem difG_self (us : List Ru) : difG us us = [] := by
  unfold difG
  split
  · exact alone_self us
  · rfl
/-- Forth from the first table with their Diff -/
theorem forth_ok {A B : List Ru} (hA : tabU A = true) (hB : tabU B = true) (cA : CanL A) (cB : CanL B) : swapE A (difG A B) (difG B A) = 0 ∧ swapV A (difG A B) (difG B A) = B := by
  rw [difG_yes hA hB, difG_yes hB hA]
  have h := diff_swap hA hB cA cB
  refine ⟨h.1, ?_⟩
  unfold swapV
  rw [if_pos h.1]
  exact h.2
theorem swapV_ok {us gs cs : List Ru} (h : swapE us gs cs = 0) : swapV us gs cs = swapL us gs cs := by unfold swapV; rw [if_pos h]
/-- what a law has in memory: patches in boxes, lists of rules -/
def MemS (w0 : World) (bs : List (Nat × Array Value)) (ls : List (Value × List Rm)) (W : World) : Prop := Env w0 W ∧ (∀ x ∈ bs, Blk x.1 x.2 25 W) ∧ ∀ x ∈ ls, RLies x.1 x.2 W
section
variable {w0 W W' : World} {bs : List (Nat × Array Value)} {ls : List (Value × List Rm)}
theorem MemS.below (hb : Below W.heap.size W W') (h : MemS w0 bs ls W) : MemS w0 bs ls W' := ⟨h.1.below hb, fun x hx => (h.2.1 x hx).below hb, fun x hx => (h.2.2 x hx).below hb⟩
theorem MemS.push (h : MemS w0 bs ls W) {v : Value} {L : List Rm} (hl : RLies v L W) : MemS w0 bs ((v, L) :: ls) W := ⟨h.1, h.2.1, fun x hx => by
  rcases List.mem_cons.1 hx with rfl | hx
  · exact hl
  · exact h.2.2 x hx⟩
theorem MemS.box (h : MemS w0 bs ls W) {B : Nat} {ps : Array Value} (hb : Blk B ps 25 W) : MemS w0 ((B, ps) :: bs) ls W := ⟨h.1, fun x hx => by
  rcases List.mem_cons.1 hx with rfl | hx
  · exact hb
  · exact h.2.1 x hx, h.2.2⟩
theorem MemS.at_ (h : MemS w0 bs ls W) (i : Nat) {v : Value} {L : List Rm} (hi : ls[i]? = some (v, L)) : RLies v L W := h.2.2 (v, L) (List.mem_of_getElem? hi)
theorem MemS.blk (h : MemS w0 bs ls W) (i : Nat) {B : Nat} {ps : Array Value} (hi : bs[i]? = some (B, ps)) : Blk B ps 25 W := h.2.1 (B, ps) (List.mem_of_getElem? hi)
theorem MemS.cell0 (h : MemS w0 bs ls W) (i : Nat) {B : Nat} {x y : Value} (hi : bs[i]? = some (B, #[x, y])) : W.cell? ⟨B, 0, none⟩ = some x := (cell_of_row _ B 0 _ _ _ (h.blk i hi)).trans rfl
theorem MemS.cell1 (h : MemS w0 bs ls W) (i : Nat) {B : Nat} {x y : Value} (hi : bs[i]? = some (B, #[x, y])) : W.cell? ⟨B, 1, none⟩ = some y := (cell_of_row _ B 1 _ _ _ (h.blk i hi)).trans rfl
end
/-- Forth and Back between two tables -/
theorem forth_tab {A B : List Ru} (hA : tabU A = true) (hB : tabU B = true) (cA : CanL A) (cB : CanL B) (wA : WfUL A) (wB : WfUL B) (nA : A.length ≤ 9000) (nB : B.length ≤ 9000) (v vg vc : Value) (l g c : List Rm) (w : World)
    (el : l.map (·.u) = A) (eg : g.map (·.u) = difG A B) (ec : c.map (·.u) = difG B A) (hl : RLies v l w) (hg : RLies vg g w) (hc : RLies vc c w) (ht : Tab w) (hz : 0 < w.heap.size) :
    Calls Tryd.prog 11 #[v, .agg #[vg, vc]] w (SwR w 0 B) := by
  have n1 := congrArg List.length el
  have n2 := congrArg List.length eg
  have n3 := congrArg List.length ec
  rw [List.length_map] at n1 n2 n3
  have m2 := difG_len A B
  have m3 := difG_len B A
  have h := forth_ok hA hB cA cB
  refine (forth_any v vg vc l g c (by omega) (by omega) (by omega) (wA.rl el) ((difG_wf wA).rl eg) ((difG_wf wB).rl ec) w hl hg hc ht hz).mono fun e w' hr => ?_
  rw [el, eg, ec] at hr
  exact SwR.of h.1.symm h.2.symm hr
theorem back_tab {A B : List Ru} (hA : tabU A = true) (hB : tabU B = true) (cA : CanL A) (cB : CanL B) (wA : WfUL A) (wB : WfUL B) (nA : A.length ≤ 9000) (nB : B.length ≤ 9000) (v vg vc : Value) (l g c : List Rm) (w : World)
    (el : l.map (·.u) = B) (eg : g.map (·.u) = difG A B) (ec : c.map (·.u) = difG B A) (hl : RLies v l w) (hg : RLies vg g w) (hc : RLies vc c w) (ht : Tab w) (hz : 0 < w.heap.size) :
    Calls Tryd.prog 12 #[v, .agg #[vg, vc]] w (SwR w 0 A) := by
  have n1 := congrArg List.length el
  have n2 := congrArg List.length eg
  have n3 := congrArg List.length ec
  rw [List.length_map] at n1 n2 n3
  have m2 := difG_len A B
  have m3 := difG_len B A
  have h := forth_ok hB hA cB cA
  refine (back_any v vg vc l g c (by omega) (by omega) (by omega) (wB.rl el) ((difG_wf wA).rl eg) ((difG_wf wB).rl ec) w hl hg hc ht hz).mono fun e w' hr => ?_
  rw [el, eg, ec] at hr
  exact SwR.of h.1.symm h.2.symm hr
theorem len_u {L : List Rm} {us : List Ru} (h : L.map (·.u) = us) : L.length = us.length := by rw [← h, List.length_map]
end Go.Proofs.YthnfaccenlkedaaDoor
