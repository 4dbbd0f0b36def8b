/-
  The walk of the laws' answers and few.
-/
import Derived.Test.YtamjaohoicedfaaDoorSpaceMath
namespace Go.Proofs.YtamjaohoicedfaaDoor
open Go.RowKit

section
variable {ops : Array Oper} {rest : List Oper} {o : Oper} {a : Act} {w : World} {Q : Exit → Act → World → Prop}
theorem builtZero : Tryd.prog.built 30 [] = some (cc zh) := by kernel_rfl
theorem builtHead : Tryd.prog.built 25 [] = some (hc zh) := by kernel_rfl
/-- The cube of all headers, written out. -/
theorem buildZero (hw : Region.wanted o (yielded ops a.tmps) = true) (ho : o.op = .build 30 #[]) (k : wpList Tryd.prog ops Q rest (a.put o.dst (.agg (cc zh))) w) : wpList Tryd.prog ops Q (o :: rest) a w := by
  have e : ((#[] : Array (Nat × Operand)).map fun (p : Nat × Operand) => (p.1, a.eval p.2)).toList = [] := by simp
  have e' := congrArg (Tryd.prog.built 30) e
  rw [builtZero] at e'
  refine wpList_step fun K hK => ?_
  rw [if_pos hw]
  refine wp_build 30 _ ho (by rw [e']; rfl) ?_
  rw [e']
  exact hK _ _ k
/-- The header of noughts, written out. -/
theorem buildHead (hw : Region.wanted o (yielded ops a.tmps) = true) (ho : o.op = .build 25 #[]) (k : wpList Tryd.prog ops Q rest (a.put o.dst (.agg (hc zh))) w) : wpList Tryd.prog ops Q (o :: rest) a w := by
  have e : ((#[] : Array (Nat × Operand)).map fun (p : Nat × Operand) => (p.1, a.eval p.2)).toList = [] := by simp
  have e' := congrArg (Tryd.prog.built 25) e
  rw [builtHead] at e'
  refine wpList_step fun K hK => ?_
  rw [if_pos hw]
  refine wp_build 25 _ ho (by rw [e']; rfl) ?_
  rw [e']
  exact hK _ _ k
/-- A slice of one cube, written out. -/
theorem buildOne (hw : Region.wanted o (yielded ops a.tmps) = true) (x : Operand) (ho : o.op = .buildSlice 22 1 #[(0, x)]) (c : Nat → Int) (hx : a.eval x = .agg (cc c))
    (h : wpList Tryd.prog ops Q rest (a.put o.dst (.slice (some ⟨w.heap.size, 0, none⟩) 1 1)) (w.alloc (.cells (cc c) 30))) : wpList Tryd.prog ops Q (o :: rest) a w := by
  obtain ⟨i, z, hi, hz, hs, hb, hc⟩ := cubeInfo
  refine wpList_step fun K hK => ?_
  rw [if_pos hw]
  refine wp_buildSlice 22 30 1 _ ho (cc c) i z Tryd.underlying22 hi hz (by rw [hs]; decide) (by rw [hs]; decide) ?_ (hK _ _ h)
  have e : ((#[(0, x)] : Array (Nat × Operand)).map fun (p : Nat × Operand) => (p.1, a.eval p.2)).toList = [(0, .agg (cc c))] := by simp [hx]
  exact (congrArg (Instr.fill (fun i' => some (i' * i.size, i.size)) ((Array.range (1 * i.size)).map (z.cells[· % z.cells.size]!))) e).trans (fillCube c hs hc)
theorem fillTwo {ie : TypeInfo} {z : Value} (a b : Nat → Int) (h1 : ie.size = 24) (h2 : z.cells = #[Value.int IntKind.u64 0, Value.int IntKind.u64 0, Value.int IntKind.u64 0, Value.int IntKind.u64 0, Value.int IntKind.u64 0, Value.int IntKind.u64 0, Value.int IntKind.u64 0, Value.int IntKind.u64 0, Value.int IntKind.u64 0, Value.int IntKind.u64 0, Value.int IntKind.u64 0, Value.int IntKind.u64 0, Value.int IntKind.u64 0, Value.int IntKind.u64 0, Value.int IntKind.u64 0, Value.int IntKind.u64 0, Value.int IntKind.u64 0, Value.int IntKind.u64 0, Value.int IntKind.u64 0, Value.int IntKind.u64 0, Value.int IntKind.u64 0, Value.int IntKind.u64 0, Value.int IntKind.u64 0, Value.int IntKind.u64 0]) :
    Instr.fill (fun i => some (i * ie.size, ie.size)) ((Array.range (2 * ie.size)).map (z.cells[· % z.cells.size]!)) [(0, .agg (cc a)), (1, .agg (cc b))] = some (cl a ++ cl b).toArray := by
  rw [h1, h2]
  kernel_rfl
/-- A slice of two cubes, written out. -/
theorem buildTwo (hw : Region.wanted o (yielded ops a.tmps) = true) (x y : Operand) (ho : o.op = .buildSlice 22 2 #[(0, x), (1, y)]) (c d : Nat → Int) (hx : a.eval x = .agg (cc c)) (hy : a.eval y = .agg (cc d))
    (h : wpList Tryd.prog ops Q rest (a.put o.dst (.slice (some ⟨w.heap.size, 0, none⟩) 2 2)) (w.alloc (.cells (cl c ++ cl d).toArray 30))) : wpList Tryd.prog ops Q (o :: rest) a w := by
  obtain ⟨i, z, hi, hz, hs, hb, hc⟩ := cubeInfo
  refine wpList_step fun K hK => ?_
  rw [if_pos hw]
  refine wp_buildSlice 22 30 2 _ ho (cl c ++ cl d).toArray i z Tryd.underlying22 hi hz (by rw [hs]; decide) (by rw [hs]; decide) ?_ (hK _ _ h)
  have e : ((#[(0, x), (1, y)] : Array (Nat × Operand)).map fun (p : Nat × Operand) => (p.1, a.eval p.2)).toList = [(0, .agg (cc c)), (1, .agg (cc d))] := by simp [hx, hy]
  exact (congrArg (Instr.fill (fun i' => some (i' * i.size, i.size)) ((Array.range (2 * i.size)).map (z.cells[· % z.cells.size]!))) e).trans (fillTwo c d hs hc)
end
theorem Owns.two (w : World) (c d : Nat → Int) : Owns w.heap.size (.slice (some ⟨w.heap.size, 0, none⟩) 2 2) [c, d] (w.alloc (.cells (cl c ++ cl d).toArray 30)) := by
  have := World.ownsRow_lit (base := w.heap.size) (e := 30) (size := 24) w (cl c ++ cl d).toArray 2 (Nat.le_refl _) (by unfold maxLen; decide) (by simp [cl_len])
  simpa [Owns, flat] using this
theorem csnd_zh : csnd zh = true := by decide +kernel
theorem has_zh : hasB zh zh = true := by decide +kernel
theorem in_zh : inB zh zh = true := in_refl zh_wf csnd_zh
theorem wfL_one {c : Nat → Int} (h : Wf c) : WfL [c] := fun x hx => by rw [List.mem_singleton.1 hx]; exact h
theorem wfL_zz : WfL [zh, zh] := fun x hx => by
  have : x = zh := by simpa using hx
  rw [this]; exact zh_wf
theorem sndL_zh : sndL [zh] = true := sndL_iff.2 ⟨by simp, fun x hx => by rw [List.mem_singleton.1 hx]; exact csnd_zh⟩
theorem leanOf_zh {left : List (Nat → Int)} (h : LeanOf [zh] left) : left = [zh] := by
  obtain ⟨L, h1, _, rfl⟩ := h
  have e : [zh].filter csnd = [zh] := by simp [csnd_zh]
  rw [e] at h1
  rw [List.perm_singleton.1 h1]
  rfl
theorem within_zh {y : Bool} {err : Int} (h : WithinOf [zh] [zh] y err) : y = true ∧ err = 0 := by
  have q := within_gives (wfL_one zh_wf) (wfL_one zh_wf) sndL_zh sndL_zh (fun _ _ e => e) h
  have e : err = 0 := by
    rcases h with ⟨h, _⟩ | ⟨_, left, R, h1, h2, _⟩
    · rw [sndL_zh] at h; cases h
    · rw [leanOf_zh h1] at h2
      have hp : (pieces [zh] zh).filter csnd = [] := by
        unfold pieces
        simp [less_none zh_wf zh_wf in_zh]
      cases h2 with
      | full hf =>
        rw [hp] at hf
        obtain ⟨L, h1, _, ⟨h3, _⟩ | ⟨_, _, h4⟩⟩ := hf
        · rw [List.perm_nil.1 h1] at h3
          exact absurd h3 (by decide)
        · cases h4
      | step hf g =>
        cases g
        rfl
  subst e
  exact ⟨by simpa using q, rfl⟩
theorem leanOf_zz {L : List (Nat → Int)} (h : L.Perm ([zh, zh].filter csnd)) : leanGo [zh, zh].length L [] = [zh] := by
  have e : [zh, zh].filter csnd = List.replicate 2 zh := by simp [csnd_zh, List.replicate]
  rw [e] at h
  rw [List.perm_replicate.1 h]
  simp [List.replicate, leanGo, in_zh]
set_option maxHeartbeats 1000000 in
set_option maxRecDepth 100000 in
theorem sanswers (w : World) (ht : Tab w) (hz : 0 < w.heap.size) :
    Calls Tryd.prog 7 #[] w fun e w' => e = .returned (.bool true) ∧ Below w.heap.size w w' := by
  have HE := Lib.hid (Env.start ht hz)
  have E1 := Lib.hid (((Env.start ht hz).alloc (.cells (cc zh) 30)).alloc (.cells (cc zh) 30))
  have HW := Lib.hid (swithin_any (.slice (some ⟨w.heap.size, 0, none⟩) 1 1) (.slice (some ⟨w.heap.size + 1, 0, none⟩) 1 1) [zh] [zh] (by simp) (by simp) (wfL_one zh_wf) (wfL_one zh_wf) _
    (Lies.one ((Blk.new w (cc zh) 30).old (.cells (cc zh) 30))) (Lies.one (Blk.new2 w (.cells (cc zh) 30) (cc zh) 30)) E1.out.tab E1.out.lt)
  clear ht
  go_enter Tryd.func7, Tryd.ntmps7
  go_upto_region 2 with (first
    | (refine buildZero rfl rfl ?_)
    | (refine buildOne rfl _ rfl zh rfl ?_)
    | (go_at_call 18; refine HW.out.mono ?_; rintro e w1 ⟨y, err, hwo, rfl, hb⟩; obtain ⟨rfl, rfl⟩ := within_zh hwo))
  have E2 := Lib.hid ((E1.out.below hb).alloc (.cells (cc zh) 30))
  have HH := Lib.hid (shas_any (.slice (some ⟨w1.heap.size, 0, none⟩) 1 1) [zh] zh (by simp) (wfL_one zh_wf) zh_wf _ (Lies.one (Blk.new w1 (cc zh) 30)) E2.out.tab E2.out.lt)
  have ea : ([zh].any fun c => hasB c zh) = true := by simp [has_zh]
  rw [ea] at HH
  clear ea hb E1 HW hwo
  have HL := Lib.hid (fun (W : World) (hE : Env w W) => lean_any (.slice (some ⟨W.heap.size, 0, none⟩) 2 2) [zh, zh] (by simp) wfL_zz _ (Owns.two W zh zh).lies (hE.alloc _).tab (hE.alloc _).lt)
  go_wp2_with (first
    | (refine buildZero rfl rfl ?_)
    | (refine buildHead rfl rfl ?_)
    | (refine buildOne rfl _ rfl zh rfl ?_)
    | (refine buildTwo rfl _ _ rfl zh zh rfl rfl ?_)
    | (go_at_call 12; refine HH.out.mono ?_; rintro e w2 ⟨rfl, hw2⟩; have E3 := Lib.hid (E2.out.below hw2); clear hw2 HH)
    | (go_at_call 8; refine (HL.out w2 E3.out).mono ?_; rintro e w3 ⟨L, v, h1, _, rfl, ho, hb3⟩; rw [leanOf_zz h1] at ho; obtain ⟨p, c, hv⟩ := ho.form; rw [List.length_singleton] at hv; subst hv))
  go_ret
  exact ⟨rfl, ((E3.out.alloc _).below hb3).kept⟩
theorem few_any (p : Option Addr) (n c : Nat) (w : World) : Calls Tryd.prog 15 #[.slice p n c] w fun e w' => e = .returned (.bool (decide (n ≤ 8))) ∧ w = w' := by
  by_cases h : n ≤ 8
  · have hI : (n : Int) ≤ 8 := by omega
    rw [decide_eq_true h]
    go_enter Tryd.func15, Tryd.ntmps15
    go_wp2
    go_ret
    exact ⟨rfl, rfl⟩
  · have hI : ¬ (n : Int) ≤ 8 := by omega
    rw [decide_eq_false h]
    go_enter Tryd.func15, Tryd.ntmps15
    go_wp2
    go_ret
    exact ⟨rfl, rfl⟩
end Go.Proofs.YtamjaohoicedfaaDoor
