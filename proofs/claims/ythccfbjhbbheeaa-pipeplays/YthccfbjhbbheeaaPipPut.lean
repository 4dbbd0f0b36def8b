/-
  A queue in memory: its box, its channel, the boxes of its elements; put and get, whose selects never block. Written by tools/mkpip.py.
-/
import Derived.Test.YthccfbjhbbheeaaPackAct
import Derived.Conc.LoneCalls
import Derived.Conc.LoneSelect
namespace Go.Proofs.Ythccfbjhbbheeaa
set_option maxRecDepth 20000
open Go.RowKit Go.Conc

/-- the value of an element's box -/
def pv (k : Nat) : Value := .pointer (some ⟨k, 0, none⟩)
section
variable {α : Type}
/-- what lies in a channel -/
def chb (es : List (Nat × α)) : Array Value := (es.map fun e => pv e.1).toArray
theorem chb_size (es : List (Nat × α)) : (chb es).size = es.length := by simp [chb]
theorem chb_push (es : List (Nat × α)) (k : Nat) (x : α) : (chb es).push (pv k) = chb (es ++ [(k, x)]) := by simp [chb]
theorem chb_head (k : Nat) (x : α) (es : List (Nat × α)) : (chb ((k, x) :: es)).getD 0 undef = pv k := by simp [chb]
theorem chb_tail (k : Nat) (x : α) (es : List (Nat × α)) : (chb ((k, x) :: es)).extract 1 (chb ((k, x) :: es)).size = chb es := by
  apply Array.ext'
  simp [chb, List.take_of_length_le]
/-- an element's box -/
def ElA (T : TypeId) (V : α → Value) (e : Nat × α) (W : World) : Prop := Blk e.1 #[V e.2] T W
/-- a queue whose box is b, its channel c -/
structure PipA (T PT : TypeId) (V : α → Value) (b c cap : Nat) (es : List (Nat × α)) (W : World) : Prop where
  box : Blk b #[.chan (some c)] PT W
  chan : ∃ s r, W.heap[c]? = some (.chan cap (chb es) false s r false)
  elem : ∀ e ∈ es, ElA T V e W
  fits : es.length ≤ cap
variable {T PT : TypeId} {V : α → Value} {b c cap : Nat} {es es' : List (Nat × α)} {w W : World} {k : Nat} {x : α}
theorem PipA.lt (h : PipA T PT V b c cap es W) : c < W.heap.size := by
  obtain ⟨s, r, hc⟩ := h.chan
  exact (Array.getElem?_eq_some_iff.1 hc).1
theorem PipA.apart {g : Nat} {cs : Array Value} {t : TypeId} (h : PipA T PT V b c cap es W) (hb : Blk g cs t W) : g ≠ c := by
  rintro rfl
  obtain ⟨s, r, hc⟩ := h.chan
  have hb' : W.heap[g]? = some (.cells cs t (0, 0)) := hb
  rw [hc] at hb'
  cases hb'
theorem PipA.below (h : PipA T PT V b c cap es w) (hb : Below w.heap.size w W) : PipA T PT V b c cap es W := by
  obtain ⟨s, r, hc⟩ := h.chan
  exact ⟨h.box.below hb, ⟨s, r, (hb.block c h.lt).trans hc⟩, fun e he => Blk.below (h.elem e he) hb, h.fits⟩
/-- what a queue's call leaves: every block but the channel's -/
theorem grown_setChan (w : World) (c cap : Nat) (B : Array Value) (s r : Nat) : w.grownBy (w.setChan c cap B false s r false) (some c) :=
  ⟨rfl, rfl, rfl, by simp [World.setChan], fun k _ hne => by simp only [World.setChan]; rw [Array.getElem?_setIfInBounds_ne (fun e => hne (by rw [e]))]⟩
theorem Blk.other {g : Nat} {cs : Array Value} {t : TypeId} (h : Blk g cs t w) (hg : w.grownBy W (some c)) (hne : g ≠ c) : Blk g cs t W :=
  (hg.block g h.lt (fun e => hne (Option.some.inj e))).trans h
/-- the queue behind a step of its channel -/
theorem PipA.set (h : PipA T PT V b c cap es w) (he : ∀ e ∈ es', ElA T V e w) (hf : es'.length ≤ cap) (s r : Nat) : PipA T PT V b c cap es' (w.setChan c cap (chb es') false s r false) :=
  ⟨h.box.other (grown_setChan ..) (h.apart h.box), ⟨s, r, heap_setChan _ _ _ _ _ _ _ _ h.lt⟩, fun e hm => Blk.other (he e hm) (grown_setChan ..) (h.apart (he e hm)), hf⟩
theorem PipA.other {g : Nat} {cs : Array Value} {t : TypeId} (h : PipA T PT V b c cap es w) (hg : w.grownBy W (some c)) (hb : Blk g cs t w) : Blk g cs t W := hb.other hg (h.apart hb)
end
set_option maxRecDepth 100000 in
set_option maxHeartbeats 1000000 in
theorem putI_r {α : Type} {V : α → Value} (b c cap : Nat) (es : List (Nat × α)) (k : Nat) (w : World) (h : PipA 3 44 V b c cap es w) (hr : es.length < cap) :
    Calls Try.prog 20 #[.pointer (some ⟨b, 0, none⟩), pv k] w fun e w' => e = .returned (.bool true) ∧ ∃ s r, w' = w.setChan c cap ((chb es).push (pv k)) false s r false := by
  obtain ⟨s, r, hc⟩ := h.chan
  have c0 : w.cell? ⟨b, 0, none⟩ = some (.chan (some c)) := (cell_of_row w b 0 _ _ _ h.box).trans rfl
  obtain ⟨B, hB⟩ : ∃ B, B = chb es := ⟨_, rfl⟩
  have hsz : B.size < cap := by rw [hB, chb_size]; exact hr
  rw [← hB] at hc ⊢
  obtain ⟨K, hK⟩ : ∃ K, K = pv k := ⟨_, rfl⟩
  rw [← hK]
  clear hB hK h hr
  refine calls_of_loneTo fun cs => ?_
  have e : Frame.enter Try.prog 20 #[.pointer (some ⟨b, 0, none⟩), K] .normal = (base 20).at ⟨#[.pointer (some ⟨b, 0, none⟩), K, undef, undef, undef, undef, undef, undef, undef, undef, undef, undef, undef], []⟩ [.code (Try.f20.body.getD .skip)] := by
    simp [Frame.enter, Frame.at, Try.func20, base, Try.f20]
  rw [e]
  refine LoneTo.goes (n := 17) ?_
  simp only [Try.f20, Option.getD_some]
  s_c stepG_seq
  s_reg
  s_op
  s_c stepG_region_end
  s_c stepG_seq
  s_c stepG_seq
  s_reg
  s_op
  s_op
  s_op
  s_op
  s_c stepG_region_end
  s_reg
  s_op
  s_c stepG_region_end
  s_c stepG_seq
  s_reg
  s_stop
  refine LoneTo.step (step_lone_select_send_room (c := c) (v := K) (z' := .pointer none) (cap := cap) (buf := B) (s := s) (r := r) (tm := false) (stepG_comm (cases := #[scase c K (.pointer none)]) (blocking := false) (shape := .select) (w' := w) rfl rfl (by decide) (by simp [go_sem, execOp, scase, Act.eval])) hc hsz) ?_
  rw [Frame.finish_at]
  walk_nrm
  refine LoneTo.goes (n := 10) ?_
  s_op
  s_op
  s_c stepG_region_end
  s_c stepG_block
  s_cond true
  s_c stepG_seq
  s_reg
  s_op
  s_c stepG_region_end
  s_c stepG_ret'
  s_stop
  refine LoneTo.done ⟨.returned (.bool true), _, rfl, ⟨rfl, _, _, rfl⟩, rfl, rfl, rfl, rfl, _, Try.func20, by simp [results, Try.f20, Frame.at]⟩
theorem putI_room {α : Type} {V : α → Value} (b c cap : Nat) (es : List (Nat × α)) (k : Nat) (x : α) (w : World) (h : PipA 3 44 V b c cap es w) (hx : ElA 3 V (k, x) w) (hr : es.length < cap) :
    Calls Try.prog 20 #[.pointer (some ⟨b, 0, none⟩), pv k] w fun e w' => e = .returned (.bool true) ∧ PipA 3 44 V b c cap (es ++ [(k, x)]) w' ∧ w.grownBy w' (some c) := by
  refine (putI_r b c cap es k w h hr).mono ?_
  rintro e w' ⟨rfl, s, r, rfl⟩
  refine ⟨rfl, ?_, grown_setChan ..⟩
  rw [chb_push es k x]
  refine h.set (fun y hy => ?_) (by simp; omega) s r
  rcases List.mem_append.1 hy with hy | hy
  · exact h.elem y hy
  · simp only [List.mem_cons, List.not_mem_nil, or_false] at hy
    subst hy
    exact hx
set_option maxRecDepth 100000 in
set_option maxHeartbeats 1000000 in
theorem putI_full {α : Type} {V : α → Value} (b c cap : Nat) (es : List (Nat × α)) (k : Nat) (w : World) (h : PipA 3 44 V b c cap es w) (hr : ¬ es.length < cap) :
    Calls Try.prog 20 #[.pointer (some ⟨b, 0, none⟩), pv k] w fun e w' => e = .returned (.bool false) ∧ w' = w := by
  obtain ⟨s, r, hc⟩ := h.chan
  have c0 : w.cell? ⟨b, 0, none⟩ = some (.chan (some c)) := (cell_of_row w b 0 _ _ _ h.box).trans rfl
  obtain ⟨B, hB⟩ : ∃ B, B = chb es := ⟨_, rfl⟩
  have hsz : cap ≤ B.size := by rw [hB, chb_size]; omega
  rw [← hB] at hc
  obtain ⟨K, hK⟩ : ∃ K, K = pv k := ⟨_, rfl⟩
  rw [← hK]
  clear hB hK h hr
  refine calls_of_loneTo fun cs => ?_
  have e : Frame.enter Try.prog 20 #[.pointer (some ⟨b, 0, none⟩), K] .normal = (base 20).at ⟨#[.pointer (some ⟨b, 0, none⟩), K, undef, undef, undef, undef, undef, undef, undef, undef, undef, undef, undef], []⟩ [.code (Try.f20.body.getD .skip)] := by
    simp [Frame.enter, Frame.at, Try.func20, base, Try.f20]
  rw [e]
  refine LoneTo.goes (n := 17) ?_
  simp only [Try.f20, Option.getD_some]
  s_c stepG_seq
  s_reg
  s_op
  s_c stepG_region_end
  s_c stepG_seq
  s_c stepG_seq
  s_reg
  s_op
  s_op
  s_op
  s_op
  s_c stepG_region_end
  s_reg
  s_op
  s_c stepG_region_end
  s_c stepG_seq
  s_reg
  s_stop
  refine LoneTo.step (step_lone_select_send_full (c := c) (v := K) (z' := .pointer none) (cap := cap) (buf := B) (s := s) (r := r) (tm := false) (stepG_comm (cases := #[scase c K (.pointer none)]) (blocking := false) (shape := .select) (w' := w) rfl rfl (by decide) (by simp [go_sem, execOp, scase, Act.eval])) hc hsz) ?_
  rw [Frame.finish_at]
  walk_nrm
  refine LoneTo.goes (n := 10) ?_
  s_op
  s_op
  s_c stepG_region_end
  s_c stepG_block
  s_cond false
  s_c stepG_seq
  s_reg
  s_op
  s_c stepG_region_end
  s_c stepG_ret'
  s_stop
  refine LoneTo.done ⟨.returned (.bool false), _, rfl, ⟨rfl, rfl⟩, rfl, rfl, rfl, rfl, _, Try.func20, by simp [results, Try.f20, Frame.at]⟩
set_option maxRecDepth 100000 in
set_option maxHeartbeats 1000000 in
theorem getI_r {α : Type} {V : α → Value} (b c cap : Nat) (es : List (Nat × α)) (K : Value) (w : World) (h : PipA 3 44 V b c cap es w) (hr : 0 < es.length) (hK : (chb es).getD 0 undef = K) :
    Calls Try.prog 19 #[.pointer (some ⟨b, 0, none⟩)] w fun e w' => e = .returned (.tuple #[K, .bool true]) ∧ ∃ s r, w' = w.setChan c cap ((chb es).extract 1 (chb es).size) false s r false := by
  obtain ⟨s, r, hc⟩ := h.chan
  have c0 : w.cell? ⟨b, 0, none⟩ = some (.chan (some c)) := (cell_of_row w b 0 _ _ _ h.box).trans rfl
  obtain ⟨B, hB⟩ : ∃ B, B = chb es := ⟨_, rfl⟩
  have hsz : 0 < B.size := by rw [hB, chb_size]; exact hr
  rw [← hB] at hc hK ⊢
  clear hB h hr
  refine calls_of_loneTo fun cs => ?_
  have e : Frame.enter Try.prog 19 #[.pointer (some ⟨b, 0, none⟩)] .normal = (base 19).at ⟨#[.pointer (some ⟨b, 0, none⟩), undef, undef, undef, undef, undef, undef, undef, undef, undef, undef, undef, undef, undef], []⟩ [.code (Try.f19.body.getD .skip)] := by
    simp [Frame.enter, Frame.at, Try.func19, base, Try.f19]
  rw [e]
  refine LoneTo.goes (n := 14) ?_
  simp only [Try.f19, Option.getD_some]
  s_c stepG_seq
  s_reg
  s_op
  s_op
  s_c stepG_region_end
  s_c stepG_seq
  s_reg
  s_op
  s_op
  s_op
  s_op
  s_c stepG_region_end
  s_c stepG_seq
  s_reg
  s_stop
  refine LoneTo.step (step_lone_select_recv_buf (c := c) (z := .pointer none) (cap := cap) (buf := B) (closed := false) (s := s) (r := r) (tm := false) (stepG_comm (cases := #[rcase c (.pointer none)]) (blocking := false) (shape := .select) (w' := w) rfl rfl (by decide) (by simp [go_sem, execOp, rcase, Act.eval])) hc hsz) ?_
  rw [Frame.finish_at, hK]
  generalize B.extract 1 B.size = B2
  clear hK hc c0 hsz
  walk_nrm
  refine LoneTo.goes (n := 17) ?_
  s_op
  s_op
  s_c stepG_region_end
  s_c stepG_block
  s_cond true
  s_c stepG_seq
  s_reg
  s_op
  s_op
  s_c stepG_region_end
  s_c stepG_seq
  s_reg
  s_op
  s_op
  s_op
  s_c stepG_region_end
  s_c stepG_ret'
  s_stop
  refine LoneTo.done ⟨.returned (.tuple #[K, .bool true]), _, rfl, ⟨rfl, _, _, rfl⟩, rfl, rfl, rfl, rfl, _, Try.func19, by simp [results, Try.f19, Frame.at]⟩
theorem getI_some {α : Type} {V : α → Value} (b c cap : Nat) (es : List (Nat × α)) (k : Nat) (x : α) (w : World) (h : PipA 3 44 V b c cap ((k, x) :: es) w) :
    Calls Try.prog 19 #[.pointer (some ⟨b, 0, none⟩)] w fun e w' => e = .returned (.tuple #[pv k, .bool true]) ∧ ElA 3 V (k, x) w' ∧ PipA 3 44 V b c cap es w' ∧ w.grownBy w' (some c) := by
  refine (getI_r b c cap _ (pv k) w h (by simp) (chb_head k x es)).mono ?_
  rintro e w' ⟨rfl, s, r, rfl⟩
  have hx := h.elem (k, x) (List.mem_cons_self ..)
  rw [chb_tail]
  exact ⟨rfl, Blk.other hx (grown_setChan ..) (h.apart hx), h.set (fun y hy => h.elem y (List.mem_cons_of_mem _ hy)) (by have := h.fits; simp at this; omega) s r, grown_setChan ..⟩
set_option maxRecDepth 100000 in
set_option maxHeartbeats 1000000 in
theorem getI_none {α : Type} {V : α → Value} (b c cap : Nat) (w : World) (h : PipA 3 44 V b c cap [] w) :
    Calls Try.prog 19 #[.pointer (some ⟨b, 0, none⟩)] w fun e w' => e = .returned (.tuple #[.pointer none, .bool false]) ∧ w' = w := by
  obtain ⟨s, r, hc⟩ := h.chan
  have c0 : w.cell? ⟨b, 0, none⟩ = some (.chan (some c)) := (cell_of_row w b 0 _ _ _ h.box).trans rfl
  clear h
  have hc : w.heap[c]? = some (.chan cap #[] false s r false) := hc
  refine calls_of_loneTo fun cs => ?_
  have e : Frame.enter Try.prog 19 #[.pointer (some ⟨b, 0, none⟩)] .normal = (base 19).at ⟨#[.pointer (some ⟨b, 0, none⟩), undef, undef, undef, undef, undef, undef, undef, undef, undef, undef, undef, undef, undef], []⟩ [.code (Try.f19.body.getD .skip)] := by
    simp [Frame.enter, Frame.at, Try.func19, base, Try.f19]
  rw [e]
  refine LoneTo.goes (n := 14) ?_
  simp only [Try.f19, Option.getD_some]
  s_c stepG_seq
  s_reg
  s_op
  s_op
  s_c stepG_region_end
  s_c stepG_seq
  s_reg
  s_op
  s_op
  s_op
  s_op
  s_c stepG_region_end
  s_c stepG_seq
  s_reg
  s_stop
  refine LoneTo.step (step_lone_select_default (c := c) (z := .pointer none) (cap := cap) (s := s) (r := r) (tm := false) (stepG_comm (cases := #[rcase c (.pointer none)]) (blocking := false) (shape := .select) (w' := w) rfl rfl (by decide) (by simp [go_sem, execOp, rcase, Act.eval])) hc) ?_
  rw [Frame.finish_at]
  walk_nrm
  refine LoneTo.goes (n := 11) ?_
  s_op
  s_op
  s_c stepG_region_end
  s_c stepG_block
  s_cond false
  s_c stepG_seq
  s_reg
  s_op
  s_op
  s_c stepG_region_end
  s_c stepG_ret'
  s_stop
  refine LoneTo.done ⟨.returned (.tuple #[.pointer none, .bool false]), _, rfl, ⟨rfl, rfl⟩, rfl, rfl, rfl, rfl, _, Try.func19, by simp [results, Try.f19, Frame.at]⟩
set_option maxRecDepth 100000 in
set_option maxHeartbeats 1000000 in
theorem putS_r {α : Type} {V : α → Value} (b c cap : Nat) (es : List (Nat × α)) (k : Nat) (w : World) (h : PipA 9 51 V b c cap es w) (hr : es.length < cap) :
    Calls Try.prog 21 #[.pointer (some ⟨b, 0, none⟩), pv k] w fun e w' => e = .returned (.bool true) ∧ ∃ s r, w' = w.setChan c cap ((chb es).push (pv k)) false s r false := by
  obtain ⟨s, r, hc⟩ := h.chan
  have c0 : w.cell? ⟨b, 0, none⟩ = some (.chan (some c)) := (cell_of_row w b 0 _ _ _ h.box).trans rfl
  obtain ⟨B, hB⟩ : ∃ B, B = chb es := ⟨_, rfl⟩
  have hsz : B.size < cap := by rw [hB, chb_size]; exact hr
  rw [← hB] at hc ⊢
  obtain ⟨K, hK⟩ : ∃ K, K = pv k := ⟨_, rfl⟩
  rw [← hK]
  clear hB hK h hr
  refine calls_of_loneTo fun cs => ?_
  have e : Frame.enter Try.prog 21 #[.pointer (some ⟨b, 0, none⟩), K] .normal = (base 21).at ⟨#[.pointer (some ⟨b, 0, none⟩), K, undef, undef, undef, undef, undef, undef, undef, undef, undef, undef, undef], []⟩ [.code (Try.f21.body.getD .skip)] := by
    simp [Frame.enter, Frame.at, Try.func21, base, Try.f21]
  rw [e]
  refine LoneTo.goes (n := 17) ?_
  simp only [Try.f21, Option.getD_some]
  s_c stepG_seq
  s_reg
  s_op
  s_c stepG_region_end
  s_c stepG_seq
  s_c stepG_seq
  s_reg
  s_op
  s_op
  s_op
  s_op
  s_c stepG_region_end
  s_reg
  s_op
  s_c stepG_region_end
  s_c stepG_seq
  s_reg
  s_stop
  refine LoneTo.step (step_lone_select_send_room (c := c) (v := K) (z' := .pointer none) (cap := cap) (buf := B) (s := s) (r := r) (tm := false) (stepG_comm (cases := #[scase c K (.pointer none)]) (blocking := false) (shape := .select) (w' := w) rfl rfl (by decide) (by simp [go_sem, execOp, scase, Act.eval])) hc hsz) ?_
  rw [Frame.finish_at]
  walk_nrm
  refine LoneTo.goes (n := 10) ?_
  s_op
  s_op
  s_c stepG_region_end
  s_c stepG_block
  s_cond true
  s_c stepG_seq
  s_reg
  s_op
  s_c stepG_region_end
  s_c stepG_ret'
  s_stop
  refine LoneTo.done ⟨.returned (.bool true), _, rfl, ⟨rfl, _, _, rfl⟩, rfl, rfl, rfl, rfl, _, Try.func21, by simp [results, Try.f21, Frame.at]⟩
theorem putS_room {α : Type} {V : α → Value} (b c cap : Nat) (es : List (Nat × α)) (k : Nat) (x : α) (w : World) (h : PipA 9 51 V b c cap es w) (hx : ElA 9 V (k, x) w) (hr : es.length < cap) :
    Calls Try.prog 21 #[.pointer (some ⟨b, 0, none⟩), pv k] w fun e w' => e = .returned (.bool true) ∧ PipA 9 51 V b c cap (es ++ [(k, x)]) w' ∧ w.grownBy w' (some c) := by
  refine (putS_r b c cap es k w h hr).mono ?_
  rintro e w' ⟨rfl, s, r, rfl⟩
  refine ⟨rfl, ?_, grown_setChan ..⟩
  rw [chb_push es k x]
  refine h.set (fun y hy => ?_) (by simp; omega) s r
  rcases List.mem_append.1 hy with hy | hy
  · exact h.elem y hy
  · simp only [List.mem_cons, List.not_mem_nil, or_false] at hy
    subst hy
    exact hx
set_option maxRecDepth 100000 in
set_option maxHeartbeats 1000000 in
theorem putS_full {α : Type} {V : α → Value} (b c cap : Nat) (es : List (Nat × α)) (k : Nat) (w : World) (h : PipA 9 51 V b c cap es w) (hr : ¬ es.length < cap) :
    Calls Try.prog 21 #[.pointer (some ⟨b, 0, none⟩), pv k] w fun e w' => e = .returned (.bool false) ∧ w' = w := by
  obtain ⟨s, r, hc⟩ := h.chan
  have c0 : w.cell? ⟨b, 0, none⟩ = some (.chan (some c)) := (cell_of_row w b 0 _ _ _ h.box).trans rfl
  obtain ⟨B, hB⟩ : ∃ B, B = chb es := ⟨_, rfl⟩
  have hsz : cap ≤ B.size := by rw [hB, chb_size]; omega
  rw [← hB] at hc
  obtain ⟨K, hK⟩ : ∃ K, K = pv k := ⟨_, rfl⟩
  rw [← hK]
  clear hB hK h hr
  refine calls_of_loneTo fun cs => ?_
  have e : Frame.enter Try.prog 21 #[.pointer (some ⟨b, 0, none⟩), K] .normal = (base 21).at ⟨#[.pointer (some ⟨b, 0, none⟩), K, undef, undef, undef, undef, undef, undef, undef, undef, undef, undef, undef], []⟩ [.code (Try.f21.body.getD .skip)] := by
    simp [Frame.enter, Frame.at, Try.func21, base, Try.f21]
  rw [e]
  refine LoneTo.goes (n := 17) ?_
  simp only [Try.f21, Option.getD_some]
  s_c stepG_seq
  s_reg
  s_op
  s_c stepG_region_end
  s_c stepG_seq
  s_c stepG_seq
  s_reg
  s_op
  s_op
  s_op
  s_op
  s_c stepG_region_end
  s_reg
  s_op
  s_c stepG_region_end
  s_c stepG_seq
  s_reg
  s_stop
  refine LoneTo.step (step_lone_select_send_full (c := c) (v := K) (z' := .pointer none) (cap := cap) (buf := B) (s := s) (r := r) (tm := false) (stepG_comm (cases := #[scase c K (.pointer none)]) (blocking := false) (shape := .select) (w' := w) rfl rfl (by decide) (by simp [go_sem, execOp, scase, Act.eval])) hc hsz) ?_
  rw [Frame.finish_at]
  walk_nrm
  refine LoneTo.goes (n := 10) ?_
  s_op
  s_op
  s_c stepG_region_end
  s_c stepG_block
  s_cond false
  s_c stepG_seq
  s_reg
  s_op
  s_c stepG_region_end
  s_c stepG_ret'
  s_stop
  refine LoneTo.done ⟨.returned (.bool false), _, rfl, ⟨rfl, rfl⟩, rfl, rfl, rfl, rfl, _, Try.func21, by simp [results, Try.f21, Frame.at]⟩
set_option maxRecDepth 100000 in
set_option maxHeartbeats 1000000 in
theorem getS_r {α : Type} {V : α → Value} (b c cap : Nat) (es : List (Nat × α)) (K : Value) (w : World) (h : PipA 9 51 V b c cap es w) (hr : 0 < es.length) (hK : (chb es).getD 0 undef = K) :
    Calls Try.prog 22 #[.pointer (some ⟨b, 0, none⟩)] w fun e w' => e = .returned (.tuple #[K, .bool true]) ∧ ∃ s r, w' = w.setChan c cap ((chb es).extract 1 (chb es).size) false s r false := by
  obtain ⟨s, r, hc⟩ := h.chan
  have c0 : w.cell? ⟨b, 0, none⟩ = some (.chan (some c)) := (cell_of_row w b 0 _ _ _ h.box).trans rfl
  obtain ⟨B, hB⟩ : ∃ B, B = chb es := ⟨_, rfl⟩
  have hsz : 0 < B.size := by rw [hB, chb_size]; exact hr
  rw [← hB] at hc hK ⊢
  clear hB h hr
  refine calls_of_loneTo fun cs => ?_
  have e : Frame.enter Try.prog 22 #[.pointer (some ⟨b, 0, none⟩)] .normal = (base 22).at ⟨#[.pointer (some ⟨b, 0, none⟩), undef, undef, undef, undef, undef, undef, undef, undef, undef, undef, undef, undef, undef], []⟩ [.code (Try.f22.body.getD .skip)] := by
    simp [Frame.enter, Frame.at, Try.func22, base, Try.f22]
  rw [e]
  refine LoneTo.goes (n := 14) ?_
  simp only [Try.f22, Option.getD_some]
  s_c stepG_seq
  s_reg
  s_op
  s_op
  s_c stepG_region_end
  s_c stepG_seq
  s_reg
  s_op
  s_op
  s_op
  s_op
  s_c stepG_region_end
  s_c stepG_seq
  s_reg
  s_stop
  refine LoneTo.step (step_lone_select_recv_buf (c := c) (z := .pointer none) (cap := cap) (buf := B) (closed := false) (s := s) (r := r) (tm := false) (stepG_comm (cases := #[rcase c (.pointer none)]) (blocking := false) (shape := .select) (w' := w) rfl rfl (by decide) (by simp [go_sem, execOp, rcase, Act.eval])) hc hsz) ?_
  rw [Frame.finish_at, hK]
  generalize B.extract 1 B.size = B2
  clear hK hc c0 hsz
  walk_nrm
  refine LoneTo.goes (n := 17) ?_
  s_op
  s_op
  s_c stepG_region_end
  s_c stepG_block
  s_cond true
  s_c stepG_seq
  s_reg
  s_op
  s_op
  s_c stepG_region_end
  s_c stepG_seq
  s_reg
  s_op
  s_op
  s_op
  s_c stepG_region_end
  s_c stepG_ret'
  s_stop
  refine LoneTo.done ⟨.returned (.tuple #[K, .bool true]), _, rfl, ⟨rfl, _, _, rfl⟩, rfl, rfl, rfl, rfl, _, Try.func22, by simp [results, Try.f22, Frame.at]⟩
theorem getS_some {α : Type} {V : α → Value} (b c cap : Nat) (es : List (Nat × α)) (k : Nat) (x : α) (w : World) (h : PipA 9 51 V b c cap ((k, x) :: es) w) :
    Calls Try.prog 22 #[.pointer (some ⟨b, 0, none⟩)] w fun e w' => e = .returned (.tuple #[pv k, .bool true]) ∧ ElA 9 V (k, x) w' ∧ PipA 9 51 V b c cap es w' ∧ w.grownBy w' (some c) := by
  refine (getS_r b c cap _ (pv k) w h (by simp) (chb_head k x es)).mono ?_
  rintro e w' ⟨rfl, s, r, rfl⟩
  have hx := h.elem (k, x) (List.mem_cons_self ..)
  rw [chb_tail]
  exact ⟨rfl, Blk.other hx (grown_setChan ..) (h.apart hx), h.set (fun y hy => h.elem y (List.mem_cons_of_mem _ hy)) (by have := h.fits; simp at this; omega) s r, grown_setChan ..⟩
set_option maxRecDepth 100000 in
set_option maxHeartbeats 1000000 in
theorem getS_none {α : Type} {V : α → Value} (b c cap : Nat) (w : World) (h : PipA 9 51 V b c cap [] w) :
    Calls Try.prog 22 #[.pointer (some ⟨b, 0, none⟩)] w fun e w' => e = .returned (.tuple #[.pointer none, .bool false]) ∧ w' = w := by
  obtain ⟨s, r, hc⟩ := h.chan
  have c0 : w.cell? ⟨b, 0, none⟩ = some (.chan (some c)) := (cell_of_row w b 0 _ _ _ h.box).trans rfl
  clear h
  have hc : w.heap[c]? = some (.chan cap #[] false s r false) := hc
  refine calls_of_loneTo fun cs => ?_
  have e : Frame.enter Try.prog 22 #[.pointer (some ⟨b, 0, none⟩)] .normal = (base 22).at ⟨#[.pointer (some ⟨b, 0, none⟩), undef, undef, undef, undef, undef, undef, undef, undef, undef, undef, undef, undef, undef], []⟩ [.code (Try.f22.body.getD .skip)] := by
    simp [Frame.enter, Frame.at, Try.func22, base, Try.f22]
  rw [e]
  refine LoneTo.goes (n := 14) ?_
  simp only [Try.f22, Option.getD_some]
  s_c stepG_seq
  s_reg
  s_op
  s_op
  s_c stepG_region_end
  s_c stepG_seq
  s_reg
  s_op
  s_op
  s_op
  s_op
  s_c stepG_region_end
  s_c stepG_seq
  s_reg
  s_stop
  refine LoneTo.step (step_lone_select_default (c := c) (z := .pointer none) (cap := cap) (s := s) (r := r) (tm := false) (stepG_comm (cases := #[rcase c (.pointer none)]) (blocking := false) (shape := .select) (w' := w) rfl rfl (by decide) (by simp [go_sem, execOp, rcase, Act.eval])) hc) ?_
  rw [Frame.finish_at]
  walk_nrm
  refine LoneTo.goes (n := 11) ?_
  s_op
  s_op
  s_c stepG_region_end
  s_c stepG_block
  s_cond false
  s_c stepG_seq
  s_reg
  s_op
  s_op
  s_c stepG_region_end
  s_c stepG_ret'
  s_stop
  refine LoneTo.done ⟨.returned (.tuple #[.pointer none, .bool false]), _, rfl, ⟨rfl, rfl⟩, rfl, rfl, rfl, rfl, _, Try.func22, by simp [results, Try.f22, Frame.at]⟩
end Go.Proofs.Ythccfbjhbbheeaa
