/-
  The walk of the law's own look: a program that does nothing does not answer.
-/
import Derived.Test.YtpcacgfhjheiiaaDoorActSam
namespace Go.Proofs.YtpcacgfhjheiiaaDoor
open Go.RowKit

/-- A slice of three elements, written out. -/
theorem kbuildThree {α : Type} (K : Kd α) (ok : K.Ok) (zs : Array Value) (hzs : ((Tryd.prog.info? K.T).bind (·.zero)).map (·.cells) = some zs) {ops : Array Oper} {rest : List Oper} {o : Oper} {a : Act} {w : World} {Q : Exit → Act → World → Prop} (hg : o.guard = none)
    (x y z : Operand) (ho : o.op = .buildSlice K.S 3 #[(0, x), (1, y), (2, z)]) (c1 c2 c3 cs : Array Value) (hx : a.eval x = .agg c1) (hy : a.eval y = .agg c2) (hz : a.eval z = .agg c3) (hsm : 3 * K.n ≤ 1000)
    (hf : Instr.fill (fun i' => some (i' * K.n, K.n)) ((Array.range (3 * K.n)).map (zs[· % zs.size]!)) [(0, .agg c1), (1, .agg c2), (2, .agg c3)] = some cs)
    (h : wpList Tryd.prog ops Q rest (a.put o.dst (.slice (some ⟨w.heap.size, 0, none⟩) 3 3)) (w.alloc (.cells cs K.T))) : wpList Tryd.prog ops Q (o :: rest) a w :=
  kbuild K ok 3 zs hzs hg _ ho _ (by simp [hx, hy, hz]) cs hsm (by decide) hf h
/-- the actions of the look -/
def A3 : List Ac := [⟨2, 0, 4, 5⟩, ⟨1, 2, 0, 0⟩, ⟨3, 0, 0, 0⟩]
def a3c : Array Value := #[.int .i64 2, .int .i64 0, .int .i64 4, .int .u64 5, .int .i64 1, .int .i64 2, .int .i64 0, .int .u64 0, .int .i64 3, .int .i64 0, .int .i64 0, .int .u64 0]
theorem fillA3 : Instr.fill (fun i' => some (i' * 4, 4)) ((Array.range (3 * 4)).map (zA[· % zA.size]!)) [(0, .agg #[.int .i64 2, .int .i64 0, .int .i64 4, .int .u64 5]), (1, .agg #[.int .i64 1, .int .i64 2, .int .i64 0, .int .u64 0]), (2, .agg #[.int .i64 3, .int .i64 0, .int .i64 0, .int .u64 0])] = some a3c := by kernel_rfl
theorem sndA3 : sndAL A3 = true := by decide
theorem runV_A3 : runV A3 zh = [⟨2, upd zh 4 5⟩] := by
  unfold runV
  rw [sndA3]
  rfl
theorem runB_A3 : runB A3 = true := by unfold runB; rw [sndA3]; rfl
theorem wfA3 : WfAL A3 := by
  intro a ha
  simp only [A3, List.mem_cons, List.not_mem_nil, or_false] at ha
  rcases ha with rfl | rfl | rfl <;> exact ⟨by decide, by decide⟩
theorem cellsS {W : World} {b o : Nat} {s : Sn} (h : W.rangeAt b o (snl s)) : W.cell? ⟨b, o, none⟩ = some (.int .i64 s.p) ∧ W.rangeAt b (o + 1) (hl s.h) :=
  ⟨h 0 _ rfl, fun j v hv => by rw [show o + 1 + j = o + (j + 1) by omega]; exact h (j + 1) v (by simpa [snl] using hv)⟩
theorem hl_get (a : Nat → Int) {j : Nat} (hj : j < 12) : (hl a)[j]? = some (.int .u64 (a j)) := by
  have e := hc_at a j hj
  rw [← Array.getElem?_toList] at e
  exact e
set_option maxRecDepth 100000 in
set_option maxHeartbeats 1000000 in
theorem aanswers (w : World) (ht : Tab w) (hz : 0 < w.heap.size) :
    Calls Tryd.prog 7 #[] w fun e w' => e = .returned (.bool true) ∧ Below w.heap.size w w' := by
  have hE := (Env.start ht hz).alloc (.cells a3c 38)
  have HR := Lib.hid (run_any (.slice (some ⟨w.heap.size, 0, none⟩) 3 3) A3 zh (by decide) wfA3 _ (Blk.klies (l := A3) (Blk.new w a3c 38) okA rfl) hE.tab hE.lt)
  rw [runV_A3, runB_A3] at HR
  have HE := Lib.hid hE
  clear ht hE
  go_enter Tryd.func7, Tryd.ntmps7
  go_upto_region 2 with (first
    | (refine kbuildThree KA okA zA zeroA rfl (.tmp 4) (.tmp 5) (.tmp 6) rfl _ _ _ a3c rfl rfl rfl (by decide) fillA3 ?_)
    | (go_at_call 8; refine HR.out.mono ?_; rintro e w1 ⟨v, rfl, ho, hb⟩; have HO := Lib.hid ho; have HB := Lib.hid hb; clear ho hb; obtain ⟨p, cap, rfl⟩ := HO.out.form))
  obtain ⟨b, o, rfl, hrg⟩ := (HO.out.lies okS).at (i := 0) (a := ⟨2, upd zh 4 5⟩) rfl
  obtain ⟨e1, e2⟩ := cellsS hrg
  have d1 : w1.cell? ⟨b, o, none⟩ = some (.int .i64 2) := by simpa using e1
  have d2 : w1.cell? ⟨b, o + 1 + 4, none⟩ = some (.int .u64 5) := by
    have := e2 4 _ (hl_get (upd zh 4 5) (by decide))
    simpa [upd] using this
  have HF := Lib.hid (HE.out.below HB.out).kept
  clear e1 e2 hrg HR HE HB HO
  go_wp2_with (fail)
  go_ret
  exact ⟨rfl, HF.out⟩
end Go.Proofs.YtpcacgfhjheiiaaDoor
