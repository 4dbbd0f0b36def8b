/-
  The walks of the program's unsound, Sound, Has, Touch of package space.
-/
import Derived.Test.YtamjaohoicedfaaDoorSpaceFun
namespace Go.Proofs.YtamjaohoicedfaaDoor
open Go.RowKit

theorem Env.pred {w W : World} (h : Env w W) : ∀ W', Below W.heap.size W W' → Tab W' ∧ 0 < W'.heap.size := fun _ hb => ⟨(h.below hb).tab, (h.below hb).lt⟩
theorem Env.trans {w W W' : World} (h : Env w W) (h' : Env W W') : Env w W' := h.below h'.kept
set_option maxHeartbeats 400000 in
theorem unsound_any (c : Nat → Int) (hc : Wf c) (w : World) (ht : Tab w) (hz : 0 < w.heap.size) :
    Calls Tryd.prog 25 #[.agg (cc c)] w fun e w' => e = .returned (.bool (!csnd c)) ∧ Below w.heap.size w w' := by
  have HE := Lib.hid ((Env.start ht hz).alloc (.cells (cc c) 30))
  have R0 := Lib.hid (Blk.new w (cc c) 30)
  have HC := Lib.hid hc
  clear ht hc
  go_enter Tryd.func25, Tryd.ntmps25
  go_wp2_with (refine wpList_load_row rfl 30 _ rfl w.heap.size rfl 30 (cc c) (0, 0) _ R0.out Tryd.underlying30 rfl (by kernel_rfl) ?_)
  refine (csound_any c HC.out.nonneg _ HE.out.tab HE.out.lt).mono ?_
  rintro e w1 ⟨rfl, hw1⟩
  go_wp2
  go_ret
  exact ⟨rfl, (HE.out.below hw1).kept⟩
theorem enUnsound : Enters Tryd.prog 25 := enters_of Tryd.func25 (by kernel_rfl) rfl
theorem pred_unsound {w : World} (ht : Tab w) (hz : 0 < w.heap.size) : Pred 25 #[] (fun c => !csnd c) w := fun W hb c hc => by
  obtain ⟨h1, h2⟩ := (Env.start ht hz).pred W hb
  exact unsound_any c hc W h1 h2
/-- is a space sound? -/
def sndL (l : List (Nat → Int)) : Bool := decide (l.length ≤ 64) && l.all csnd
set_option maxHeartbeats 400000 in
theorem ssound_any (v : Value) (l : List (Nat → Int)) (hlen : l.length ≤ 1000000) (hw : WfL l) (w : World) (hl : Lies v l w) (ht : Tab w) (hz : 0 < w.heap.size) :
    Calls Tryd.prog 10 #[v] w fun e w' => e = .returned (.bool (sndL l)) ∧ Below w.heap.size w w' := by
  have HC := Lib.hid (contains_any 25 #[] (fun c => !csnd c) enUnsound v l hlen hw w hl (pred_unsound ht hz))
  have HA : (!l.any fun c => !csnd c) = l.all csnd := by rw [List.not_any_eq_all_not]; simp
  obtain ⟨p, cap, rfl⟩ := hl.form
  clear hl hw ht
  unfold sndL
  by_cases h : l.length ≤ 64
  · have hI : (l.length : Int) ≤ 64 := by omega
    have hd : decide (l.length ≤ 64) = true := decide_eq_true h
    have hA := Lib.hid HA
    clear HA
    go_enter Tryd.func10, Tryd.ntmps10
    go_wp2_with (go_at_call 24; refine HC.out.mono ?_; rintro e w1 ⟨rfl, hw1⟩)
    go_ret
    exact ⟨ret_bool (by rw [hd, ← hA.out]; simp), hw1⟩
  · have hI : ¬ (l.length : Int) ≤ 64 := by omega
    have hd : decide (l.length ≤ 64) = false := decide_eq_false h
    clear HC
    go_enter Tryd.func10, Tryd.ntmps10
    go_wp2
    go_ret
    exact ⟨ret_bool (by first | rfl | simp [hd]), Below.refl _ _⟩
set_option maxHeartbeats 400000 in
theorem has1_any (c h : Nat → Int) (hc' : Wf c) (hh : Wf h) (B : Nat) (w : World) (ht : Tab w) (hz : 0 < w.heap.size) (hB : Blk B (hc h) 25 w) :
    Calls Tryd.prog 27 #[.agg (cc c), .pointer (some ⟨B, 0, none⟩)] w fun e w' => e = .returned (.bool (hasB c h)) ∧ Below w.heap.size w w' := by
  have HE := Lib.hid ((Env.start ht hz).alloc (.cells (cc c) 30))
  have R0 := Lib.hid (Blk.new w (cc c) 30)
  have R1 := Lib.hid (hB.old (.cells (cc c) 30))
  have HC := Lib.hid (And.intro hc' hh)
  clear ht hc' hh hB
  go_enter Tryd.func27, Tryd.ntmps27
  go_wp2_with (first
    | (refine wpList_load_row rfl 30 _ rfl w.heap.size rfl 30 (cc c) (0, 0) _ R0.out Tryd.underlying30 rfl (by kernel_rfl) ?_)
    | (refine wpList_load_row rfl 25 _ rfl B rfl 25 (hc h) (0, 0) _ R1.out Tryd.underlying25 rfl (by kernel_rfl) ?_))
  refine (chas_any c h HC.out.1.nonneg HC.out.2.nonneg _ HE.out.tab HE.out.lt).mono ?_
  rintro e w1 ⟨rfl, hw1⟩
  go_wp2
  go_ret
  exact ⟨rfl, (HE.out.below hw1).kept⟩
theorem enHas1 : Enters Tryd.prog 27 := enters_of Tryd.func27 (by kernel_rfl) rfl
theorem shas_any (v : Value) (l : List (Nat → Int)) (h : Nat → Int) (hlen : l.length ≤ 1000000) (hw : WfL l) (hh : Wf h) (w : World) (hl : Lies v l w) (ht : Tab w) (hz : 0 < w.heap.size) :
    Calls Tryd.prog 12 #[v, .agg (hc h)] w fun e w' => e = .returned (.bool (l.any fun c => hasB c h)) ∧ Below w.heap.size w w' := by
  have hE := (Env.start ht hz).alloc (.cells (hc h) 25)
  have HC := Lib.hid (contains_any 27 #[.pointer (some ⟨w.heap.size, 0, none⟩)] (fun c => hasB c h) enHas1 v l hlen hw _ (hl.below (below1 w (.cells (hc h) 25))) (fun W hb c hc' =>
    has1_any c h hc' hh w.heap.size W (hE.pred W hb).1 (hE.pred W hb).2 ((Blk.new w (hc h) 25).below hb)))
  have HE := Lib.hid hE
  clear hl hw ht hh hE
  go_enter Tryd.func12, Tryd.ntmps12
  go_wp2_with (go_at_call 24; refine HC.out.mono ?_; rintro e w1 ⟨rfl, hw1⟩)
  go_ret
  exact ⟨rfl, (HE.out.below hw1).kept⟩
set_option maxHeartbeats 400000 in
theorem touch11_any (c d : Nat → Int) (hc' : Wf c) (hd : Wf d) (B : Nat) (w : World) (ht : Tab w) (hz : 0 < w.heap.size) (hB : Blk B (cc c) 30 w) :
    Calls Tryd.prog 35 #[.agg (cc d), .pointer (some ⟨B, 0, none⟩)] w fun e w' => e = .returned (.bool (metB c d)) ∧ Below w.heap.size w w' := by
  have HE := Lib.hid ((Env.start ht hz).alloc (.cells (cc d) 30))
  have R0 := Lib.hid (Blk.new w (cc d) 30)
  have R1 := Lib.hid (hB.old (.cells (cc d) 30))
  have HM := Lib.hid (fun (W : World) (t : Tab W) (z : 0 < W.heap.size) => cmeet_any c d hc'.nonneg hd.nonneg W t z)
  clear ht hc' hd hB
  generalize metV c d = m at *
  generalize metB c d = y at *
  go_enter Tryd.func35, Tryd.ntmps35
  go_wp2_with (first
    | (refine wpList_load_row rfl 30 _ rfl w.heap.size rfl 30 (cc d) (0, 0) _ R0.out Tryd.underlying30 rfl (by kernel_rfl) ?_)
    | (refine wpList_load_row rfl 30 _ rfl B rfl 30 (cc c) (0, 0) _ R1.out Tryd.underlying30 rfl (by kernel_rfl) ?_))
  refine (HM.out _ HE.out.tab HE.out.lt).mono ?_
  rintro e w1 ⟨rfl, hw1⟩
  have HB := Lib.hid ((HE.out.below hw1).alloc (.cells (cc m) 30)).kept
  clear hw1 HE R0 R1 HM
  go_wp2_with (refine wpList_store_row rfl 30 _ _ rfl w1.heap.size (cc m) rfl rfl 30 _ (heap_alloc_new _ _) (by kernel_rfl) rfl (cc_one _) ?_; rw [World.setRow_alloc_new])
  go_ret
  exact ⟨rfl, HB.out⟩
theorem enTouch11 : Enters Tryd.prog 35 := enters_of Tryd.func35 (by kernel_rfl) rfl
theorem enTouch1 : Enters Tryd.prog 34 := enters_of Tryd.func34 (by kernel_rfl) rfl
set_option maxHeartbeats 400000 in
theorem touch1_any (c : Nat → Int) (hc' : Wf c) (v : Value) (l : List (Nat → Int)) (hlen : l.length ≤ 1000000) (hw : WfL l) (B : Nat) (w : World) (hl : Lies v l w) (ht : Tab w) (hz : 0 < w.heap.size) (hB : Blk B #[v] 22 w) :
    Calls Tryd.prog 34 #[.agg (cc c), .pointer (some ⟨B, 0, none⟩)] w fun e w' => e = .returned (.bool (l.any fun d => metB c d)) ∧ Below w.heap.size w w' := by
  have hE := (Env.start ht hz).alloc (.cells (cc c) 30)
  have HC := Lib.hid (contains_any 35 #[.pointer (some ⟨w.heap.size, 0, none⟩)] (fun d => metB c d) enTouch11 v l hlen hw _ (hl.below (below1 w (.cells (cc c) 30))) (fun W hb d hd =>
    touch11_any c d hc' hd w.heap.size W (hE.pred W hb).1 (hE.pred W hb).2 ((Blk.new w (cc c) 30).below hb)))
  have HE := Lib.hid hE
  have k := cell_of_row w B 0 #[v] _ _ hB
  have hlt := hB.lt
  obtain ⟨p, cap, rfl⟩ := hl.form
  have k2 : (w.alloc (.cells (cc c) 30)).cell? ⟨B, 0, none⟩ = some (.slice p l.length cap) := by rw [cell_of_row _ B 0 #[_] _ _ (hB.old _)]; rfl
  clear hl hw ht hc' hE k hlt hB
  go_enter Tryd.func34, Tryd.ntmps34
  go_wp2_with (go_at_call 24; refine HC.out.mono ?_; rintro e w1 ⟨rfl, hw1⟩)
  go_ret
  exact ⟨rfl, (HE.out.below hw1).kept⟩
/-- have two spaces a header in common? -/
def touchL (l k : List (Nat → Int)) : Bool := l.any fun c => k.any fun d => metB c d
theorem stouch_any (v u : Value) (l k : List (Nat → Int)) (hlen : l.length ≤ 1000000) (hlen' : k.length ≤ 1000000) (hw : WfL l) (hw' : WfL k) (w : World) (hl : Lies v l w) (hk : Lies u k w) (ht : Tab w) (hz : 0 < w.heap.size) :
    Calls Tryd.prog 19 #[v, u] w fun e w' => e = .returned (.bool (touchL l k)) ∧ Below w.heap.size w w' := by
  have hE := (Env.start ht hz).alloc (.cells #[u] 22)
  have HC := Lib.hid (contains_any 34 #[.pointer (some ⟨w.heap.size, 0, none⟩)] (fun c => k.any fun d => metB c d) enTouch1 v l hlen hw _ (hl.below (below1 w (.cells #[u] 22))) (fun W hb c hc' =>
    touch1_any c hc' u k hlen' hw' w.heap.size W ((hk.below (below1 w (.cells #[u] 22))).below hb) (hE.pred W hb).1 (hE.pred W hb).2 ((Blk.new w #[u] 22).below hb)))
  have HE := Lib.hid hE
  obtain ⟨p, cap, rfl⟩ := hk.form
  clear hl hw hk hw' ht hE
  unfold touchL
  go_enter Tryd.func19, Tryd.ntmps19
  go_wp2_with (go_at_call 24; refine HC.out.mono ?_; rintro e w1 ⟨rfl, hw1⟩)
  go_ret
  exact ⟨rfl, (HE.out.below hw1).kept⟩
end Go.Proofs.YtamjaohoicedfaaDoor
