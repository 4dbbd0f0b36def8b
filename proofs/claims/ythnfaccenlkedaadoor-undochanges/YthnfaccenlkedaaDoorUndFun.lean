/-
  The walks of equalIn, keyIn and all of package undo.
-/
import Derived.Test.YthnfaccenlkedaaDoorUndCond
import Derived.Test.YthnfaccenlkedaaDoorUndDel
namespace Go.Proofs.YthnfaccenlkedaaDoor
set_option maxRecDepth 20000
open Go.RowKit

/-- a condition that a call gives: a function with its table in a box -/
def CndRet (g : Nat) (v : Value) (w : World) (e : Ending) (w' : World) : Prop := e = .returned (.func (.func g) #[] #[.pointer (some ⟨w.heap.size, 0, none⟩)]) ∧ Blk w.heap.size #[v] 22 w' ∧ Below w.heap.size w w'
theorem eqIn_any (p : Option Addr) (n cap : Nat) (w : World) : Calls Tryd.prog 21 #[.slice p n cap] w (CndRet 36 (.slice p n cap) w) := by
  have HR := Lib.hid (Blk.new w #[.slice p n cap] 22)
  have HB := Lib.hid (below1 w (.cells #[.slice p n cap] 22))
  go_enter Tryd.func21, Tryd.ntmps21
  go_wp2_with fail
  go_ret
  exact ⟨rfl, HR.out, HB.out⟩
theorem keyIn_any (p : Option Addr) (n cap : Nat) (w : World) : Calls Tryd.prog 46 #[.slice p n cap] w (CndRet 71 (.slice p n cap) w) := by
  have HR := Lib.hid (Blk.new w #[.slice p n cap] 22)
  have HB := Lib.hid (below1 w (.cells #[.slice p n cap] 22))
  go_enter Tryd.func46, Tryd.ntmps46
  go_wp2_with fail
  go_ret
  exact ⟨rfl, HR.out, HB.out⟩
theorem enEq1 : ∀ args w, (callFunc 36 args).run Tryd.prog w = .ok (.enter 36 args) w := enters_of Tryd.func36 (by kernel_rfl) rfl
theorem enKey1 : ∀ args w, (callFunc 71 args).run Tryd.prog w = .ok (.enter 71 args) w := enters_of Tryd.func71 (by kernel_rfl) rfl
theorem enAll1 : ∀ args w, (callFunc 70 args).run Tryd.prog w = .ok (.enter 70 args) w := enters_of Tryd.func70 (by kernel_rfl) rfl
set_option maxHeartbeats 1000000 in
theorem all1_any (g : Nat) (cb : Array Value) (eg : ∀ args w, (callFunc g args).run Tryd.prog w = .ok (.enter g args) w) (Bh : Nat) (r : Rm) (y : Bool) (w : World) (hB : Blk Bh #[.func (.func g) #[] cb] 53 w)
    (hp : ∀ W, Below w.heap.size w W → Calls Tryd.prog g (#[agR r] ++ cb) W fun e w' => e = .returned (.bool y) ∧ Below W.heap.size W w') :
    Calls Tryd.prog 70 #[.agg (rca r), .pointer (some ⟨Bh, 0, none⟩)] w fun e w' => e = .returned (.bool (!y)) ∧ Below w.heap.size w w' := by
  have RR := Lib.hid (Blk.new w (rca r) 51)
  have HB := Lib.hid (below1 w (.cells (rca r) 51))
  have hc0 : (w.alloc (.cells (rca r) 51)).cell? ⟨Bh, 0, none⟩ = some (.func (.func g) #[] cb) := (cell_of_row _ Bh 0 _ _ _ (hB.below (below1 w (.cells (rca r) 51)))).trans rfl
  have HC := Lib.hid (show Calls Tryd.prog g (#[.agg (rca r)] ++ cb) _ _ from hp _ HB.out)
  clear hp hB
  go_enter Tryd.func70, Tryd.ntmps70
  go_wp2_with (first
    | (refine wpList_load_row rfl 51 _ rfl w.heap.size rfl 51 (rca r) (0, 0) _ RR.out Tryd.underlying51 rfl infoR ?_)
    | (go_at_fn g; refine HC.out.mono ?_; rintro e w1 ⟨rfl, hw1⟩))
  go_ret
  exact ⟨rfl, HB.out.trans (hw1.mono HB.out.size)⟩
theorem any_not (q : Rm → Bool) (l : List Rm) : (!(l.any fun r => !q r)) = l.all q := by
  induction l with
  | nil => rfl
  | cons a l ih => rw [List.any_cons, List.all_cons, ← ih]; cases q a <;> simp
set_option maxHeartbeats 1000000 in
theorem all_any (g : Nat) (cb : Array Value) (q : Rm → Bool) (eg : ∀ args w, (callFunc g args).run Tryd.prog w = .ok (.enter g args) w) (v : Value) (l : List Rm) (hlen : l.length ≤ 140737488355328) (w : World)
    (hl : KLies KR v l w) (hp : KPred agR (· ∈ l) g cb q w) :
    Calls Tryd.prog 43 #[v, .func (.func g) #[] cb] w fun e w' => e = .returned (.bool (l.all q)) ∧ Below w.heap.size w w' := by
  have RB := Blk.new w #[.func (.func g) #[] cb] 53
  have HB := Lib.hid (below1 w (.cells #[.func (.func g) #[] cb] 53))
  have HI := Lib.hid (rcontains_in 70 #[.pointer (some ⟨w.heap.size, 0, none⟩)] (fun r => !q r) enAll1 v l hlen _ (hl.below okR HB.out) (fun W hW c hc =>
    all1_any g cb eg w.heap.size c (q c) W (RB.below hW) (fun W' hW' => hp W' ((HB.out.trans (hW.mono HB.out.size)).trans (hW'.mono (HB.out.trans (hW.mono HB.out.size)).size)) c hc)))
  have HN := Lib.hid (any_not q l)
  obtain ⟨p, cap, rfl⟩ := hl.form
  clear hl hp RB
  generalize (l.any fun r => !q r) = y at *
  go_enter Tryd.func43, Tryd.ntmps43
  go_wp2_with (go_at_call 45; refine HI.out.mono ?_; rintro e w1 ⟨rfl, hw1⟩)
  go_ret
  exact ⟨ret_bool HN.out, HB.out.trans (hw1.mono HB.out.size)⟩
end Go.Proofs.YthnfaccenlkedaaDoor
