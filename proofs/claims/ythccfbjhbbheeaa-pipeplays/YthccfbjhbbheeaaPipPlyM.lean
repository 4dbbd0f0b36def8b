/-
  A queue beside a list that is cut from the front and appended to; two slices of the same ints.
-/
import Derived.Test.YthccfbjhbbheeaaPipAns
namespace Go.Proofs.Ythccfbjhbbheeaa
set_option maxRecDepth 20000
open Go.RowKit Go.Conc

theorem elemZ : Try.prog.underlying 22 = some (.slice (Try.prog.elem 22)) := by kernel_rfl
theorem sizeElZ (w : World) : (Go.sizeOf (Try.prog.elem 22)).run Try.prog w = .ok 1 w := Try.sizeOf3 w
theorem execFromZ {a : Act} {oi : Oper} {w : World} {x y : Operand} (ho : oi.op = .slice 22 x (some y) none none) (p : Option Addr) (len cap c : Nat) (hx : a.eval x = .slice p len cap) (hy : a.eval y = .int .i64 (c : Int))
    (hc : c ≤ len) : (execOp a.eval oi).run Try.prog w = .ok (.value (fromV 1 p len cap c)) w := by
  unfold execOp
  simp only [ho, hx, Option.map_some, Option.map_none, hy, Sem.run_bind]
  rw [run_sliceAt_slice (h := elemZ), run_slice_l (ht := elemZ) (h0 := by omega) (h1 := by omega), sizeElZ]
  simp [Result.andThen, sliced, fromV]
theorem wpFromZ {ops : Array Oper} {rest : List Oper} {oi : Oper} {a : Act} {w : World} {Q : Exit → Act → World → Prop} (hg : oi.guard = none) (x y : Operand) (ho : oi.op = .slice 22 x (some y) none none) (p : Option Addr) (len cap c : Nat) (hx : a.eval x = .slice p len cap) (hy : a.eval y = .int .i64 (c : Int))
    (hc : c ≤ len) (h : wpList Try.prog ops Q rest (a.put oi.dst (fromV 1 p len cap c)) w) : wpList Try.prog ops Q (oi :: rest) a w :=
  wpList_plain hg fun _ hK => by
    unfold Oper.wp
    rw [execFromZ ho p len cap c hx hy hc]
    exact hK _ _ h
theorem fromV_own (n : Nat) (p : Option Addr) (len cap c : Nat) : (fromV n p len cap c).ownBlock = (Value.slice p len cap).ownBlock := by
  unfold fromV
  cases p with
  | none => simp [Value.ownBlock]
  | some a =>
    have e : ∀ k, (a.add k).block = a.block := fun k => by unfold Addr.add; split <;> rfl
    split <;> simp [Value.ownBlock, e]
set_option maxHeartbeats 1000000 in
/-- Put, with the element's box named. -/
theorem PutI_at (b c cap : Nat) (es : List (Nat × Int)) (x : Int) (w : World) (h : PiI b c cap es w) (hr : es.length < cap) :
    Calls Try.prog 10 #[.pointer (some ⟨b, 0, none⟩), .int .i64 x] w fun e w' => e = .returned (.bool true) ∧ PiI b c cap (es ++ [(w.heap.size, x)]) w' ∧ w.grownBy w' (some c) := by
  have h1 := below1 w (.cells #[.int .i64 x] 3)
  have HC := Lib.hid (show Calls Try.prog 20 #[.pointer (some ⟨b, 0, none⟩), .pointer (some ⟨w.heap.size, 0, none⟩)] (w.alloc (.cells #[.int .i64 x] 3)) _ from putI_room b c cap es w.heap.size x (w.alloc (.cells #[.int .i64 x] 3)) (h.below h1) (Blk.new _ _ _) hr)
  have HB := Lib.hid h1
  clear h hr h1
  go_enter Try.func10, Try.ntmps10
  go_wp2_with (go_at_call 20; refine HC.out.mono ?_; rintro e W1 ⟨rfl, hp, hg⟩)
  go_ret
  exact ⟨rfl, hp, grown_after HB.out hg⟩
/-- a queue and a list that share no memory -/
structure PlS (base b c cap : Nat) (es : List (Nat × Int)) (v : Value) (L : List Int) (W : World) : Prop where
  q : PiI b c cap es W
  l : KTail KZ base v L W
  far : ∀ e ∈ es, some e.1 ≠ v.ownBlock
variable {base b c cap : Nat} {es : List (Nat × Int)} {v v' : Value} {L : List Int} {w W W' : World} {x : Int}
theorem KTail.chanOther {α β : Type} {K : Kd β} {T PT : TypeId} {V : α → Value} {es : List (Nat × α)} {l : List β} (h : KTail K base v l w) (hg : w.grownBy W (some c)) (hp : PipA T PT V b c cap es w) : KTail K base v l W := by
  rcases h with h | ⟨g, off, cp, cur, e1, e2, e3, e4⟩
  · exact .inl h
  · exact .inr ⟨g, off, cp, cur, e1, e2, Blk.other (c := c) e3 hg (hp.apart e3), e4⟩
theorem PlS.below (h : PlS base b c cap es v L W) (hb : Below W.heap.size W W') : PlS base b c cap es v L W' :=
  ⟨h.q.below hb, h.l.keep fun g hg => hb.block g (h.l.ge g hg).2, h.far⟩
/-- the queue while the list grows -/
theorem PlS.grown (h : PlS base b c cap es v L W) (hg : W.grownBy W' v.ownBlock) : PiI b c cap es W' := by
  have hne : ∀ g cs t, Blk g cs t W → (t ≠ 3 ∨ some g ≠ v.ownBlock) → some g ≠ v.ownBlock := fun g cs t hb ho e => by
    rcases ho with ho | ho
    · rcases h.l with ⟨rfl, _⟩ | ⟨g', off, cp, cur, rfl, _, e3, _⟩
      · cases e
      · injection e with e
        have e : g = g' := e
        subst e
        have hb' : W.heap[g]? = some (.cells cs t (0, 0)) := hb
        rw [e3] at hb'
        injection hb' with hb'
        injection hb' with _ hb' _
        exact ho hb'.symm
    · exact ho e
  have hc : some c ≠ v.ownBlock := fun e => by
    rcases h.l with ⟨rfl, _⟩ | ⟨g', off, cp, cur, rfl, _, e3, _⟩
    · cases e
    · injection e with e
      have e : c = g' := e
      subst e
      obtain ⟨s, r, hc⟩ := h.q.chan
      rw [e3] at hc
      cases hc
  obtain ⟨s, r, hch⟩ := h.q.chan
  exact ⟨(hg.block b h.q.box.lt (hne b _ _ h.q.box (.inl (by decide)))).trans h.q.box, ⟨s, r, (hg.block c h.q.lt hc).trans hch⟩,
    fun e he => (hg.block e.1 (Blk.lt (h.q.elem e he)) (h.far e he)).trans (h.q.elem e he), h.q.fits⟩
/-- the first element got, the list cut -/
theorem PlS.cut {k : Nat} {p : Option Addr} {cp : Nat} (h : PlS base b c cap ((k, x) :: es) (.slice p (x :: L).length cp) (x :: L) w) (hp : PiI b c cap es W) (hg : w.grownBy W (some c)) :
    PlS base b c cap es (fromV 1 p (x :: L).length cp 1) L W := by
  have ht := (h.l.chanOther hg h.q).from okZ (c := 1) (by simp)
  refine ⟨hp, ht, fun e he => ?_⟩
  rw [fromV_own]
  exact h.far e (List.mem_cons_of_mem _ he)
/-- a new box is none of the list's -/
theorem PlS.new (h : PlS base b c cap es v L w) (hp : PiI b c cap (es ++ [(w.heap.size, x)]) W) (hg : w.grownBy W (some c)) : PlS base b c cap (es ++ [(w.heap.size, x)]) v L W := by
  refine ⟨hp, h.l.chanOther hg h.q, fun e he => ?_⟩
  rcases List.mem_append.1 he with he | he
  · exact h.far e he
  · simp only [List.mem_cons, List.not_mem_nil, or_false] at he
    subst he
    intro e
    have := (h.l.ge _ e.symm).2
    exact Nat.lt_irrefl _ this
/-- the list appended to -/
theorem PlS.app {L' : List Int} (h : PlS base b c cap es v L W) (ht : KTail KZ base v' L' W') (hg : W.grownBy W' v.ownBlock) (ho : v'.ownBlock = v.ownBlock ∨ v'.ownBlock = some W.heap.size) : PlS base b c cap es v' L' W' := by
  refine ⟨h.grown hg, ht, fun e he hh => ?_⟩
  rcases ho with ho | ho
  · exact h.far e he (by rw [← ho]; exact hh)
  · rw [ho] at hh
    injection hh with hh
    have : e.1 < W.heap.size := Blk.lt (h.q.elem e he)
    omega
set_option maxHeartbeats 1000000 in
theorem rintsZ_same (v1 v2 : Value) (l : List Int) (hlen : l.length ≤ 1000000) (w : World) (h1 : KLies KZ v1 l w) (h2 : KLies KZ v2 l w) :
    Calls Try.prog 12 #[v1, v2] w fun e w' => e = .returned (.bool true) ∧ Below w.heap.size w w' := by
  obtain ⟨p1, c1, rfl⟩ := h1.form
  obtain ⟨p2, c2, rfl⟩ := h2.form
  have HS := Lib.hid (show KLies KZ (.slice p1 l.length c1) l w ∧ KLies KZ (.slice p2 l.length c2) l w ∧ Below w.heap.size w w from ⟨h1, h2, Below.refl _ _⟩)
  clear h1 h2
  go_enter Try.func12, Try.ntmps12
  go_wp2_with fail
  go_loopg [5] l.length (fun k s5 wr => ∃ r : Nat, r + k = l.length ∧ s5 = .int .i64 r ∧ KLies KZ (.slice p1 l.length c1) l wr ∧ KLies KZ (.slice p2 l.length c2) l wr ∧ Below w.heap.size w wr)
  case atStart => exact ⟨0, by omega, rfl, HS.out⟩
  case round =>
    obtain ⟨r, hr, rfl, hs⟩ := hrel
    have HT := Lib.hid hs
    clear hs HS
    by_cases hlt : r < l.length
    · have hltI : (r : Int) < (l.length : Int) := by omega
      obtain ⟨x, hx⟩ := lt_some hlt
      obtain ⟨b1, o1, rfl, ka⟩ := cellZ HT.out.1 hx
      obtain ⟨b2, o2, rfl, kb⟩ := cellZ HT.out.2.1 hx
      clear hx
      go_upto_region 6 with fail
      go_quiet (fail)
      have HB := Lib.hid (belowDrewN wr nq)
      have HT1 := Lib.hid (show KLies KZ (.slice (some ⟨b1, o1, none⟩) l.length c1) l (wr.drewN nq) ∧ KLies KZ (.slice (some ⟨b2, o2, none⟩) l.length c2) l (wr.drewN nq) ∧ Below w.heap.size w (wr.drewN nq) from ⟨HT.out.1.below okZ HB.out, HT.out.2.1.below okZ HB.out, HT.out.2.2.trans (HB.out.mono HT.out.2.2.size)⟩)
      clear HT HB ka kb
      generalize wr.drewN nq = W at *
      go_wp2_with fail
      go_roundg (l.length - (r + 1))
      case measure => omega
      case rel => exact ⟨r + 1, by omega, by go_num, HT1.out⟩
    · have hltI : ¬ (r : Int) < (l.length : Int) := by omega
      go_wp2_with fail
      go_ret
      exact ⟨rfl, HT.out.2.2⟩
end Go.Proofs.Ythccfbjhbbheeaa
