/-
  The walk of slices.DeleteFunc over a slice of one's own.
-/
import Derived.Test.YtamjaohoicedfaaDoorSpaceRow
namespace Go.Proofs.YtamjaohoicedfaaDoor
open Go.RowKit

/-- A whole cube stored into a row of cubes. -/
theorem storeCube {ops : Array Oper} {rest : List Oper} {o : Oper} {a : Act} {w : World} {Q : Exit → Act → World → Prop} (hgd : o.guard = none) (x y : Operand) (ho : o.op = .store 30 x y) (g i cap : Nat) (d : List (Nat → Int)) (c : Nat → Int)
    (hx : a.eval x = .pointer (some ⟨g, i * 24, none⟩)) (hy : a.eval y = .agg (cc c)) (hO : OwnsAt g cap d w) (hi : i < d.length)
    (h : wpList Tryd.prog ops Q rest (a.put o.dst undef) (w.setCells g (i * 24) (cl c))) : wpList Tryd.prog ops Q (o :: rest) a w :=
  wpList_store_mid hgd 30 x y ho g (i * 24) (cc c) hx hy (by rw [cc_size]; exact hO.there (by have := hO.1; omega)) (by rw [cc_size]; exact infoCube) (cc_one c) h
/-- what DeleteFunc has while it goes over the row -/
def DelAt (w0 : World) (q : (Nat → Int) → Bool) (l : List (Nat → Int)) (g cap i j : Nat) (W : World) : Prop := ∃ d, Kept q l i j d ∧ OwnsAt g cap d W ∧ Below w0.heap.size w0 W
theorem idxL_cases (q : (Nat → Int) → Bool) (l : List (Nat → Int)) : (idxL q l = -1 ∧ ∀ j, j < l.length → q (nth l j) = false) ∨ ∃ i : Nat, idxL q l = i ∧ i < l.length ∧ q (nth l i) = true ∧ ∀ j, j < i → q (nth l j) = false := by
  unfold idxL
  cases h : l.findIdx? q with
  | none =>
    rw [List.findIdx?_eq_none_iff] at h
    exact .inl ⟨rfl, fun j hj => h _ (nth_mem hj)⟩
  | some i =>
    rw [List.findIdx?_eq_some_iff_getElem] at h
    obtain ⟨hi, h1, h2⟩ := h
    refine .inr ⟨i, rfl, hi, ?_, fun j hj => ?_⟩
    · simpa [nth, List.getD_eq_getElem?_getD, List.getElem?_eq_getElem hi] using h1
    · have hj' : j < l.length := by omega
      simpa [nth, List.getD_eq_getElem?_getD, List.getElem?_eq_getElem hj'] using h2 j hj
theorem filter_none {q : (Nat → Int) → Bool} {l : List (Nat → Int)} (h : ∀ j, j < l.length → q (nth l j) = false) : l.filter (fun c => !q c) = l := by
  rw [List.filter_eq_self]
  intro x hx
  obtain ⟨k, hk, rfl⟩ := List.mem_iff_getElem.1 hx
  have := h k hk
  rw [nth, List.getD_eq_getElem?_getD, List.getElem?_eq_getElem hk] at this
  simpa using this
set_option maxHeartbeats 2000000 in
set_option maxRecDepth 100000 in
theorem delete_some (g : Nat) (cb : Array Value) (q : (Nat → Int) → Bool) (eg : ∀ args w, (callFunc g args).run Tryd.prog w = .ok (.enter g args) w) (B cap : Nat) (l : List (Nat → Int)) (hlen : l.length ≤ 1000000) (hw : WfL l) (w0 w : World)
    (hB : w0.heap.size ≤ B) (hl : OwnsAt B cap l w) (hb : Below w0.heap.size w0 w) (hp : Pred g cb q w0) (k0 : Nat) (hidx : idxL q l = k0) (hk0 : k0 < l.length) (h1 : q (nth l k0) = true) (h2 : ∀ j, j < k0 → q (nth l j) = false) :
    Calls Tryd.prog 36 #[.slice (some ⟨B, 0, none⟩) l.length cap, .func (.func g) #[] cb] w fun e w' => ∃ n, e = .returned (.slice (some ⟨B, 0, none⟩) n cap) ∧ n = (l.filter fun c => !q c).length ∧ OwnsAt B cap (l.filter fun c => !q c) w' ∧ Below w0.heap.size w0 w' := by
  have HI := Lib.hid (index_any g cb q eg (some ⟨B, 0, none⟩) cap l hlen hw w (hl.owns (base := 0) (Nat.zero_le _)).lies (hp.below hb))
  rw [hidx] at HI
  have hS0 : DelAt w0 q l B cap k0 (k0 + 1) w := ⟨l, Kept.start hk0 h1 h2, hl, hb⟩
  have hcap : l.length ≤ cap := hl.1
  have HP := Lib.hid hp
  have HW := Lib.hid hw
  have HS := Lib.hid hS0
  clear hl hp hw hb hS0 hidx h1 h2
  have hne1 : ((k0 : Int) == -1) = false := beq_eq_false_iff_ne.2 (by omega)
  go_enter Tryd.func36, Tryd.ntmps36
  go_wp2_with (go_at_call 45; refine HI.out.mono ?_; rintro e w1 ⟨rfl, hw1⟩)
  have HS1 := Lib.hid (show DelAt w0 q l B cap k0 (k0 + 1) w1 from by
    obtain ⟨d, a, b, c⟩ := HS.out
    exact ⟨d, a, b.below hw1, c.trans (hw1.mono c.size)⟩)
  clear hw1 HS HI
  go_loopg [5, 6] (l.length - (k0 + 1)) (fun k s5 s6 wr => ∃ i j : Nat, j + k = l.length ∧ s5 = .int .i64 i ∧ s6 = .int .i64 j ∧ DelAt w0 q l B cap i j wr)
  case atStart => exact ⟨k0, k0 + 1, by omega, rfl, by go_num, HS1.out⟩
  case round =>
    clear HS1
    obtain ⟨i, j, hj, rfl, rfl, d, hK, hO, hBe⟩ := hrel
    have HK := Lib.hid hK
    have HO := Lib.hid hO
    have HB := Lib.hid hBe
    clear hK hO hBe
    by_cases hlt : j < l.length
    · have hltI : (j : Int) < (l.length : Int) := by omega
      have hij := HK.out.lt
      have hilI : (i : Int) < (l.length : Int) := by omega
      have hjd : j < d.length := by rw [HK.out.len]; exact hlt
      have HR := Lib.hid (show wr.rangeAt B (j * 24) (cl (nth l j)) from by rw [← HK.out.post j (Nat.le_refl _)]; exact HO.out.range hjd)
      have HC := Lib.hid (HP.out (wr.alloc (.cells (cc (nth l j)) 30)) (HB.out.alloc HB.out.size _) (nth l j) (HW.out.nth hlt))
      have R0 := Lib.hid (Blk.new wr (cc (nth l j)) 30)
      cases hq : q (nth l j)
      · rw [hq] at HC
        have HK1 := Lib.hid (HK.out.keep hlt hq)
        clear hq
        go_wp2_with (first
          | (refine wpList_load_mid rfl 30 _ rfl B (j * 24) rfl (cl (nth l j)) _ HR.out Tryd.underlying30 rfl infoCube ?_)
          | (refine wpList_store_row rfl 30 _ _ rfl wr.heap.size (cc (nth l j)) rfl rfl 30 _ (heap_alloc_new _ _) (by kernel_rfl) rfl (cc_one _) ?_; rw [World.setRow_alloc_new])
          | (refine wpList_load_row rfl 30 _ rfl wr.heap.size rfl 30 (cc (nth l j)) (0, 0) _ R0.out Tryd.underlying30 rfl (by kernel_rfl) ?_))
        refine HC.out.mono ?_
        rintro e w2 ⟨rfl, hw2⟩
        have R1 := Lib.hid (R0.out.below hw2)
        have HO2 := Lib.hid ((HO.out.below (below1 wr (.cells (cc (nth l j)) 30))).below hw2)
        have HB2 := Lib.hid ((HB.out.alloc HB.out.size (.cells (cc (nth l j)) 30)).trans (hw2.mono (by simp; have := HB.out.size; omega)))
        clear hw2 HC R0 HR HO HB
        have hid : i < d.length := by rw [HK.out.len]; omega
        go_upto_region 10 with (first
          | (refine storeCube rfl (.tmp 33) (.tmp 32) rfl B i cap d (nth l j) rfl rfl HO2.out hid ?_)
          | (refine wpList_load_row rfl 30 (.tmp 7) rfl wr.heap.size rfl 30 (cc (nth l j)) (0, 0) _ R1.out Tryd.underlying30 rfl (by kernel_rfl) ?_))
        have HO3 := Lib.hid (HO2.out.set hid (nth l j))
        have HB3 := Lib.hid (show Below w0.heap.size w0 (w2.setCells B (i * 24) (cl (nth l j))) from Lib.below_setCells B hB _ _ HB2.out)
        clear HO2 HB2 R1
        generalize w2.setCells B (i * 24) (cl (nth l j)) = w3 at *
        go_wp2
        go_roundg (l.length - (j + 1))
        case measure => omega
        case rel =>
          exact ⟨i + 1, j + 1, by omega, by go_num, by go_num, d.set i (nth l j), HK1.out, HO3.out, HB3.out⟩
      · rw [hq] at HC
        have HK1 := Lib.hid (HK.out.skip hlt hq)
        clear hq
        go_wp2_with (first
          | (refine wpList_load_mid rfl 30 _ rfl B (j * 24) rfl (cl (nth l j)) _ HR.out Tryd.underlying30 rfl infoCube ?_)
          | (refine wpList_store_row rfl 30 _ _ rfl wr.heap.size (cc (nth l j)) rfl rfl 30 _ (heap_alloc_new _ _) (by kernel_rfl) rfl (cc_one _) ?_; rw [World.setRow_alloc_new])
          | (refine wpList_load_row rfl 30 _ rfl wr.heap.size rfl 30 (cc (nth l j)) (0, 0) _ R0.out Tryd.underlying30 rfl (by kernel_rfl) ?_))
        refine HC.out.mono ?_
        rintro e w2 ⟨rfl, hw2⟩
        have HO2 := Lib.hid ((HO.out.below (below1 wr (.cells (cc (nth l j)) 30))).below hw2)
        have HB2 := Lib.hid ((HB.out.alloc HB.out.size (.cells (cc (nth l j)) 30)).trans (hw2.mono (by simp; have := HB.out.size; omega)))
        clear hw2 HC R0 HR HO HB
        go_wp2
        go_roundg (l.length - (j + 1))
        case measure => omega
        case rel => exact ⟨i, j + 1, by omega, rfl, by go_num, d, HK1.out, HO2.out, HB2.out⟩
    · obtain rfl : j = l.length := by omega
      have hij := HK.out.lt
      have hdl := HK.out.len
      have hlt' : ¬ ((l.length : Int) < (l.length : Int)) := by omega
      have hid : i ≤ d.length := by omega
      have hO1 : OwnsAt B cap (d.take i) wr := HO.out.cut (by rw [List.length_take]; omega) fun k hk => nth_take (by rw [List.length_take] at hk; omega)
      have hcl := run_clear_cubes wr (ty := 0) B (i * 24) (l.length - i) (cap - i) (by omega) (fun t ht => by
        have := (HO.out.there (i := i + t / 24) (by have := HO.out.1; omega) (t % 24) (by omega)).1
        rwa [show (i + t / 24) * 24 + t % 24 = i * 24 + t by omega] at this) (fun t ht => by
        have := (HO.out.there (i := i + t / 24) (by have := HO.out.1; omega) (t % 24) (by omega)).2
        rwa [show (i + t / 24) * 24 + t % 24 = i * 24 + t by omega] at this)
      obtain ⟨vs, hcl⟩ := hcl
      have hcl' : ∀ ty, (Builtin.clear_ #[22] ty #[.slice (some ⟨B, i * 24, none⟩) (l.length - i) (cap - i)]).run Tryd.prog wr = .ok (.tuple #[]) (wr.setCells B (i * 24) vs) := fun ty => hcl
      have hlk : (d.take i).length = i := by rw [List.length_take]; omega
      have HO2 := Lib.hid (show OwnsAt B cap (d.take i) (wr.setCells B (i * 24) vs) from by have := hO1.wipe vs; rwa [hlk] at this)
      have HB2 := Lib.hid (show Below w0.heap.size w0 (wr.setCells B (i * 24) vs) from Lib.below_setCells B hB _ _ HB.out)
      have HD := Lib.hid HK.out.done
      clear hO1 hcl HO HB
      go_wp2
      go_ret
      exact ⟨i, rfl, by rw [← HD.out, hlk], by rw [← HD.out]; exact HO2.out, HB2.out⟩
/-- what DeleteFunc returns, in memory from a block on -/
def DelRet (w0 : World) (base : Nat) (l : List (Nat → Int)) (e : Ending) (w' : World) : Prop := ∃ v, e = .returned v ∧ Owns base v l w' ∧ Below w0.heap.size w0 w'
set_option maxHeartbeats 400000 in
theorem delete_none (g : Nat) (cb : Array Value) (q : (Nat → Int) → Bool) (eg : ∀ args w, (callFunc g args).run Tryd.prog w = .ok (.enter g args) w) (base : Nat) (v : Value) (l : List (Nat → Int)) (hlen : l.length ≤ 1000000) (hw : WfL l) (w0 w : World)
    (hl : Owns base v l w) (hb : Below w0.heap.size w0 w) (hp : Pred g cb q w0) (hidx : idxL q l = -1) (h2 : ∀ j, j < l.length → q (nth l j) = false) :
    Calls Tryd.prog 36 #[v, .func (.func g) #[] cb] w (DelRet w0 base (l.filter fun c => !q c)) := by
  rw [filter_none h2]
  obtain ⟨p, cap, rfl⟩ := hl.form
  have HI := Lib.hid (index_any g cb q eg p cap l hlen hw w hl.lies (hp.below hb))
  rw [hidx] at HI
  have HL := Lib.hid hl
  have HB := Lib.hid hb
  clear hl hb hp hw h2 hidx
  go_enter Tryd.func36, Tryd.ntmps36
  go_wp2_with (go_at_call 45; refine HI.out.mono ?_; rintro e w1 ⟨rfl, hw1⟩)
  go_ret
  exact ⟨_, rfl, HL.out.below hw1, HB.out.trans (hw1.mono HB.out.size)⟩
theorem delete_any (g : Nat) (cb : Array Value) (q : (Nat → Int) → Bool) (eg : ∀ args w, (callFunc g args).run Tryd.prog w = .ok (.enter g args) w) (base : Nat) (v : Value) (l : List (Nat → Int)) (hlen : l.length ≤ 1000000) (hw : WfL l) (w0 w : World)
    (hbase : w0.heap.size ≤ base) (hl : Owns base v l w) (hb : Below w0.heap.size w0 w) (hp : Pred g cb q w0) :
    Calls Tryd.prog 36 #[v, .func (.func g) #[] cb] w (DelRet w0 base (l.filter fun c => !q c)) := by
  rcases idxL_cases q l with ⟨e, h⟩ | ⟨i, e, hi, h1, h2⟩
  · exact delete_none g cb q eg base v l hlen hw w0 w hl hb hp e h
  · obtain ⟨B, cap, rfl, _, _⟩ := World.ownsRow.form hl (by omega)
    obtain ⟨hO, hB⟩ := OwnsAt.of hl
    refine (delete_some g cb q eg B cap l hlen hw w0 w (by omega) hO hb hp i e hi h1 h2).mono ?_
    rintro e w' ⟨n, rfl, rfl, h3, h4⟩
    exact ⟨_, rfl, h3.owns hB, h4⟩
end Go.Proofs.YtamjaohoicedfaaDoor
